import PyProof.Rows.All
import Wide.All
import OpenK.AllK
import Wide.FinOn
import Lean
import PyProof.EqAt
import PyProof.EqKinds
import PyProof.TupleCall
import PyProof.NeKinds
import PyProof.ConsumeWalk
import PyProof.ZipIter
import PyProof.EnumMake
import PyProof.EnumFor
import PyProof.StrWalks
import PyProof.ListStr
import PyProof.SliceStr2
import PyProof.StrBlockI
import PyProof.Rows.StrWeight2
import PyProof.Rows.ZipGen
import PyProof.Rows.StrIndexOr
import PyProof.Draws
import PyProof.RaisesStr
import PyProof.Rows.StrCountLaw
import PyProof.SumWalk
import PyProof.ReprRoads
import PyProof.ReprLen
import PyProof.CallFns
import PyProof.SumAny
import PyProof.SumAnyB
import PySem.Challenge.RW_wordrules_k04_sentences_of_anything
set_option Elab.async false
set_option linter.all false
set_option maxRecDepth 100000
section
open PySem PyProof.Rows
def zaa:=@Option.bind_eq_some_iff
def zab:=@Option.map_eq_some_iff
def zac:=@List.length_cons
def zad:=@List.length_map
def zae:=@List.length_append
def zaf:=@Heap.get?_push_of_some
def zag:=@Nat.lt_of_lt_of_le
def zah:=@List.getElem?_eq_some_iff
def zai:=@List.size_toArray
def zaj:=@List.mem_cons_of_mem
def zak:=@List.getElem?_eq_getElem
def zal:=@Heap.lt_size
def zam:=@wpAny_bind
def zan:=@Heap.get?_push_size
def zao:=@List.getElem?_map
def zap:=@List.not_mem_nil
def zaq:=@List.mem_cons_self
def zar:=@List.map_cons
def zas:=@List.lookup_cons
def zat:=@Option.some.inj
def zau:=@Nat.le_trans
def zav:=@Nat.le_refl
def zaw:=@Nat.ne_of_lt
def zax:=@List.mem_append
def zay:=@List.mem_cons
def zaz:=@List.mem_map
def zaA:=@decide_eq_false
def zaB:=@decide_eq_true
def zaC:=@List.map_append
def zaD:=@List.append_assoc
def zaE:=@List.length_take
def zaF:=@List.length_drop
def zaG:=@Bool.true_and
def zaH:=@List.mem_singleton
def zaI:=@Nat.lt_irrefl
def zaK:=@List.getElem_mem
def zaL:=@Int.toNat_natCast
def zaM:=@Int.eq_ofNat_of_zero_le
def zaO:=@List.getElem?_set_ne
def zaP:=@List.getElem?_set_self
def zaS:=@List.getElem?_append_left
def zaT:=@wpAny_pure
def zaU:=@PySem.mem_of_lookup
def zaV:=@List.length_set
def zaX:=@List.mem_of_getElem?
def zaY:=@Array.length_toList
def za1:=@Prod.mk.injEq
def za6:=@List.length_eq_zero_iff
def za7:=@PySem.W.mg_none_of
def za8:=@PySem.W.mg_of
def zbb:=@List.nodup_cons
def zbc:=@List.nodup_append
end
namespace PySem.W.Fast
def tw10006024976090028788:=0
def tw10075380020626169274:=0
def tw10141469079990389031:=0
def tw10222886511649548213:=0
def tw10251276042594778183:=0
def tw10390504870997602532:=0
def tw10516306134307059178:=0
def tw10622516541851517934:=0
def tw10633641001207573105:=0
def tw10742377029029378235:=0
def tw10953862599488438582:=0
def tw10988363667886343775:=0
def tw11051835726221641069:=0
def tw11093208254430883007:=0
def tw11204445652682023265:=0
def tw11252427889808319889:=0
def tw11401339008107668697:=0
def tw11446389650111576060:=0
def tw11466238001814234785:=0
def tw11541793859444151493:=0
def tw11705395528199280160:=0
def tw11728344059887227648:=0
def tw1190632425164565230:=0
def tw11959771193090846236:=0
def tw11991268381032561320:=0
def tw12007502252833983775:=0
def tw12201319662015454312:=0
def tw12225106885923283192:=0
def tw12270505417629237392:=0
def tw12686701316741586523:=0
def tw13003166647467763561:=0
def tw1315054804790704841:=0
def tw13295318521604001460:=0
def tw13393767340356769836:=0
def tw13401349180437873284:=0
def tw13449966331826687094:=0
def tw13544977266028135284:=0
def tw13732526843882647569:=0
def tw13740979394866853045:=0
def tw13803517733415459559:=0
def tw13821567494667732419:=0
def tw13852974673282143330:=0
def tw1394325529928466751:=0
def tw13977221623925701620:=0
def tw13986983009282992959:=0
def tw14052335922611338941:=0
def tw14110977010756176281:=0
def tw14333470769142117408:=0
def tw14486458754824765892:=0
def tw14543833245149854272:=0
def tw14578745893003701050:=0
def tw14773315711228333136:=0
def tw14791059978989155773:=0
def tw14906802414045070719:=0
def tw1491959238619422815:=0
def tw15046556300247629223:=0
def tw15051838648076581242:=0
def tw15080089760122989962:=0
def tw15111653237624307559:=0
def tw15182654247813081610:=0
def tw15399172240233549410:=0
def tw15478064365306634318:=0
def tw15526705586789830252:=0
def tw15626939372970925615:=0
def tw15785128045754537970:=0
def tw15829821130322606796:=0
def tw15885504471413637240:=0
def tw15964034247669634250:=0
def tw16061106257477116835:=0
def tw16165499920420807591:=0
def tw16193442630144263700:=0
def tw16261613198798127719:=0
def tw16279369506350865652:=0
def tw16574443969257893767:=0
def tw16597812102013124393:=0
def tw16630140623896581277:=0
def tw1727626392639734506:=0
def tw17414961615678179517:=0
def tw17469827266756517833:=0
def tw1756567094369303494:=0
def tw17615507201814730781:=0
def tw17663587457087815820:=0
def tw17735525425671085280:=0
def tw17811030224704694906:=0
def tw1788216759685961144:=0
def tw17918129859622130585:=0
def tw18116401815407142541:=0
def tw18262237175406426163:=0
def tw18363115723930726246:=0
def tw18371346921686883446:=0
def tw18393282256721848301:=0
def tw1889588747502151042:=0
def tw1929546454558869484:=0
def tw195810349078375985:=0
def tw200506061680096018:=0
def tw2215565238852508370:=0
def tw2235138522534604353:=0
def tw2322178186217569213:=0
def tw2650470251585695242:=0
def tw2755671017958176249:=0
def tw2830332381495680533:=0
def tw2931708405054320980:=0
def tw3070629848639047027:=0
def tw3125380777609379675:=0
def tw3145801073317636261:=0
def tw3193505924459614105:=0
def tw3204150194973552671:=0
def tw3289781596443816526:=0
def tw3319789007592234977:=0
def tw3679979141287901901:=0
def tw3777491173941059328:=0
def tw380736893437768591:=0
def tw3841072503221469093:=0
def tw3931949891795419911:=0
def tw3942991382331226044:=0
def tw3969958292187304757:=0
def tw4010932473947405521:=0
def tw4034362186514790954:=0
def tw4152080905763907118:=0
def tw427125496922524821:=0
def tw4447896449856235747:=0
def tw4904948213630280108:=0
def tw4945133800354292633:=0
def tw4960615653704433440:=0
def tw5115644920941579884:=0
def tw5377381786890239964:=0
def tw5402867815622729969:=0
def tw5484206250408980777:=0
def tw5547960234146995859:=0
def tw5551759303935119744:=0
def tw5564244972183477586:=0
def tw5659478072856030990:=0
def tw5721435107536143292:=0
def tw5783767475533223933:=0
def tw6196095843814973954:=0
def tw6224788416722911679:=0
def tw6228738942996199637:=0
def tw6249466286239203371:=0
def tw6260339709180863540:=0
def tw6383864567275587679:=0
def tw6391035205863062650:=0
def tw64373695941762658:=0
def tw6560942966201572858:=0
def tw6789774556892899169:=0
def tw6897369761831484208:=0
def tw7171094426810510464:=0
def tw7362695711944605120:=0
def tw7463967566687070154:=0
def tw7526158197084817711:=0
def tw7643108906742000902:=0
def tw7748872425249560467:=0
def tw789973889301463630:=0
def tw8057077355810899270:=0
def tw8076820485463744534:=0
def tw8184087471602832784:=0
def tw8236905013151311269:=0
def tw829982811440964286:=0
def tw8389266703578197056:=0
def tw8524785001073971127:=0
def tw8566945248416616914:=0
def tw8567950374073044110:=0
def tw8631394481603079787:=0
def tw8673579807249349432:=0
def tw8713547498928538137:=0
def tw8756796461705644117:=0
def tw8902327209170430696:=0
def tw8975960345906561494:=0
def tw9371943048651592762:=0
def tw9424417771131150632:=0
def tw9574351886982835369:=0
def tw9580069540847829188:=0
def tw9581739438876110925:=0
def tw9630474227928546774:=0
def tw97031485773651588:=0
def tw9842394179402598075:=0
def tw9851023606088702517:=0
end PySem.W.Fast
namespace L2
open PySem PySem.Spec PyProof.Rows
abbrev Key:=Sum Int Str
def iG:Key->Value->Bool
 | .inl k,v=>Value.isInt k v
 | .inr x,v=>Value.isStrOf x v
def F9 (w:World):Key->Int
 | .inl k=>hashInt k
 | .inr x=>hashStr w x
def bG:∀ {k:Key} {v:Value},iG k v=true->(∃ i t,k=Sum.inl i/\v=Value.int i t)\/(∃ x t,k=Sum.inr x/\v=Value.str x t)
 | .inl i,v,h=>by
  obtain ⟨t,e⟩:=Value.isInt_shape (k:=i) (v:=v) h;exact .inl ⟨i,t,rfl,e⟩
 | .inr x,v,h=>by
  obtain ⟨t,e⟩:=Value.isStrOf_shape (x:=x) (v:=v) h;exact .inr ⟨x,t,rfl,e⟩
def qC (i:Int) (t:Tok):iG (.inl i) (.int i t)=true:=by simp [iG,Value.isInt]
def qB (x:Str) (t:Tok):iG (.inr x) (.str x t)=true:=by simp [iG,Value.isStrOf]
def DM (a b:Int):decide ((Sum.inl a:Key)=Sum.inl b)=(a == b):=by
 by_cases e:a=b
 ·subst e; simp
 ·have h:¬ (Sum.inl a:Key)=Sum.inl b:=fun q=>e (Sum.inl.inj q);rw [zaA h];exact (beq_eq_false_iff_ne.mpr e).symm
def DI (a b:Str):decide ((Sum.inr a:Key)=Sum.inr b)=decide (a=b):=by
 by_cases e:a=b
 ·subst e; simp
 ·have h:¬ (Sum.inr a:Key)=Sum.inr b:=fun q=>e (Sum.inr.inj q);rw [zaA h,zaA e]
def DL (a:Int) (b:Str):decide ((Sum.inl a:Key)=Sum.inr b)=false:=zaA (fun q=>nomatch q)
def DJ (a:Str) (b:Int):decide ((Sum.inr a:Key)=Sum.inl b)=false:=zaA (fun q=>nomatch q)
def bU (prog:Program) (w:World):PySem.KeyKind prog w Key where
 is:=iG
 hash:=F9 w
 inj:=fun v a b ha hb=>by
  rcases bG ha with ⟨i,t,rfl,rfl⟩ | ⟨x,t,rfl,rfl⟩
  ·rcases bG hb with ⟨j,u,rfl,e⟩ | ⟨y,u,rfl,e⟩
   ·injection e with e1 _; rw [e1]
   ·exact nomatch e
  ·rcases bG hb with ⟨j,u,rfl,e⟩ | ⟨y,u,rfl,e⟩
   ·exact nomatch e
   ·injection e with e1 _; rw [e1]
 byValue:=fun k v h=>by
  rcases bG h with ⟨i,t,rfl,rfl⟩ | ⟨x,t,rfl,rfl⟩ <;> rfl
 pyHash:=fun hv h=>by
  rcases bG hv with ⟨i,t,rfl,rfl⟩ | ⟨x,t,rfl,rfl⟩
  ·exact wpAny_pyHash_int h
  ·exact wpAny_pyHash_str h
 eqBool:=fun hu hv h=>by
  rcases bG hu with ⟨i,t,rfl,rfl⟩ | ⟨x,t,rfl,rfl⟩
  ·rcases bG hv with ⟨j,u,rfl,rfl⟩ | ⟨y,u,rfl,rfl⟩
   ·rw [DM] at h; exact wpAny_eqBool_int h
   ·rw [DL] at h; exact SeqAt.EqAt.int_str i t y u _ _ _ _ h
  ·rcases bG hv with ⟨j,u,rfl,rfl⟩ | ⟨y,u,rfl,rfl⟩
   ·rw [DJ] at h; exact SeqAt.EqAt.str_int x t j u _ _ _ _ h
   ·rw [DI] at h; exact wpAny_eqBool_str h
 «strs»:=fun k x t v h=>by
  rcases bG h with ⟨i,u,rfl,e⟩ | ⟨y,u,rfl,e⟩
  ·exact nomatch e
  ·injection e with e1 _
   subst e1;cases v <;> rfl
def oe (prog:Program) (w:World) (i:Int) (t:Tok):(bU prog w).is (.inl i) (.int i t)=true:=qC i t
def n9 (prog:Program) (w:World) (x:Str) (t:Tok):(bU prog w).is (.inr x) (.str x t)=true:=qB x t
inductive V where
 | non | bl (b:Bool) | int (i:Int) | str (x:Str) | byt (b:Array UInt8) | flt (b:UInt64) | ref (a:Addr) | ty (n:String)
 deriving DecidableEq
def RelV:V->Value->Prop
 | .non,u=>u=Value.none
 | .bl b,u=>u=Value.bool b
 | .int i,u=>∃ t,u=Value.int i t
 | .str x,u=>∃ t,u=Value.str x t
 | .byt b,u=>∃ t,u=Value.bytes b t
 | .flt b,u=>∃ t,u=Value.float b t
 | .ref a,u=>u=Value.ref a
 | .ty n,u=>u=Value.type n
abbrev Vals:List V->List Value->Prop:=Paired RelV
def Vals.length {xs:List V} {us:List Value} (r:Vals xs us):xs.length=us.length:=Paired.length r
def Vals.get:∀ {xs:List V} {us:List Value} {i:Nat} {x:V},Vals xs us->xs[i]?=some x->∃ u,us[i]?=some u/\RelV x u
 | _,_,_,_,.nil,e=>by simp at e
 | _,_,0,_,.cons r _,e=>by simp at e; subst e; exact ⟨_,rfl,r⟩
 | _,_,i+1,x,.cons _ t,e=>by
  obtain ⟨u,h1,h2⟩:=Vals.get (i:=i) (x:=x) t (by simpa using e);exact ⟨u,by simpa using h1,h2⟩
def Vals.set {x:V} {u:Value} (r:RelV x u):∀ {xs:List V} {us:List Value} (i:Nat),Vals xs us->Vals (xs.set i x) (us.set i u)
 | _,_,_,.nil=>.nil
 | _,_,0,.cons _ t=>.cons r t
 | _,_,i+1,.cons q t=>.cons q (Vals.set r i t)
def Vals.append:∀ {xs ys:List V} {us ws:List Value},Vals xs us->Vals ys ws->Vals (xs++ys) (us++ws)
 | _,_,_,_,.nil,s=>s
 | _,_,_,_,.cons r t,s=>.cons r (Vals.append t s)
def Vals.take:∀ {xs:List V} {us:List Value} (n:Nat),Vals xs us->Vals (xs.take n) (us.take n)
 | _,_,0,_=>.nil
 | _,_,_+1,.nil=>.nil
 | _,_,n+1,.cons r t=>.cons r (Vals.take n t)
def Vals.drop:∀ {xs:List V} {us:List Value} (n:Nat),Vals xs us->Vals (xs.drop n) (us.drop n)
 | _,_,0,r=>r
 | _,_,_+1,.nil=>.nil
 | _,_,n+1,.cons _ t=>Vals.drop n t
def sV:Option V->Option Value->Prop
 | some v,some u=>RelV v u
 | none,none=>True
 | _,_=>False
def KV {κ:Type}:List (κ × V)->List (κ × Value)->Prop:=Paired fun (p:κ × V) (q:κ × Value)=>p.1=q.1/\RelV p.2 q.2
def kV:Key->V
 | .inl i=>.int i
 | .inr x=>.str x
inductive HO where
 | lst (xs:List V)
 | tup (xs:List V)
 | dK (kvs:List (Key × V)) | dT (kvs:List (List Key × V))
 | set (S:Int->Bool) (n:Nat)
 | ins (C dx:Addr) (fs:List (Str × V))
 | own (x:Addr)
 | xd (fs:List (Str × V))
 | met (f x:Addr)
 | rng (lo hi:Int)
 | frz (o:Obj) (u:HO)
 | tbl (ps:Array Value)
 | ext (φ:Heap->Prop)
abbrev Hp:=Addr->Option HO
def upd (H:Hp) (a:Addr) (o:HO):Hp:=fun b=>if b=a then some o else H b
def a8 {H:Hp} {a:Addr} {o:HO}:upd H a o a=some o:=by unfold upd; rw [if_pos rfl]
def bg {H:Hp} {a b:Addr} {o:HO} (h:b≠a):upd H a o b=H b:=by unfold upd; rw [if_neg h]
def eE {H:Hp} {a b:Addr} {o:HO} (h:H a=some o) (h':H b=none):a≠b:=by
 intro e; subst e; rw [h] at h'; cases h'
def IsTupN (h:Heap) (a:Addr) (its:Array Value):Prop:=∃ o,h.get? a=some o/\o.cls=.type "tuple"/\∃ n,o.data=.seq its n/\o.dict=none
def IsTupN.tup {h:Heap} {a:Addr} {its:Array Value} (x:IsTupN h a its):IsTup h a its:=by
 obtain ⟨o,h1,h2,n,h3,_⟩:=x;exact ⟨o,h1,h2,n,h3⟩
def IsTupN.lt {h:Heap} {a:Addr} {its:Array Value} (x:IsTupN h a its):a < h.objs.size:=zal x.choose_spec.1
def IsTupN.new (h:Heap) (its:Array Value):IsTupN (h.push { cls:=.type "tuple",data:=.seq its }) h.objs.size its:=⟨_,zan _ rfl,rfl,_,rfl,rfl⟩
section
variable (P:Program) (w:World)
def ObjOk (H:Hp) (h:Heap) (a:Addr):HO->Prop
 | .lst xs=>xs.length<=sizeLine/\∃ (its:List Value) (n:Nat),Vals xs its/\h.get? a=some { cls:=.type "list",data:=.seq its.toArray n }
 | .tup xs=>xs.length<=sizeLine/\∃ its:List Value,Vals xs its/\IsTupN h a its.toArray
 | .dK kvs=>kvs.length<=sizeLine/\(a == sysModules)=false/\∃ vs,KV kvs vs/\h.DictOf (bU P w) a vs
 | .dT kvs=>kvs.length<=sizeLine/\(a == sysModules)=false/\∃ xs:List (List Key × Addr × Value),
   Paired (fun (p:List Key × V) (q:List Key × Addr × Value)=>p.1=q.1/\H q.2.1=some (.tup (p.1.map kV))/\RelV p.2 q.2.2) kvs xs /\
   ∃ o es ep,h.get? a=some o/\o.ExactDict/\o.data=.dict es ep/\es.toList=xs.map (entryOfKey (tupleKind (bU P w)))/\(xs.map (·.1)).Nodup
 | .set S n=>h.SetOf (intKind P w) a S n
 | .ins C dx fs=>H dx=some (.own a)/\fs.length<=1000/\dx≠a/\h.get? a=some (PySem.W.instObj C dx) /\
   ∃ mA,h.Ns1 dx mA/\(∀ f,sV (fs.lookup f) (mA f))/\PySem.Within mA (fs.map (·.1))
 | .own _=>∃ o,h.get? a=some o
 | .xd fs=>∃ mA,h.Ns1 a mA/\∀ f,sV (fs.lookup f) (mA f)
 | .rng lo hi=>∃ t u v,h.get? a=some { cls:=.type "range",data:=.fields #[.int lo t,.int hi u,.int 1 v] }
 | .frz o u=>h.get? a=some o/\ObjOk H h a u
 | .tbl ps=>h.get? a=some { cls:=.none,data:=.fields ps }
 | .met f x=>h.get? a=some (PySem.W.methodObj (.ref f) (.ref x))
 | .ext φ=>φ h/\(∃ o,h.get? a=some o)/\∀ h1 h2:Heap,φ h1->(∀ o,h1.get? a=some o->h2.get? a=some o)->φ h2
def HOk (H:Hp) (h:Heap):Prop:=∀ a o,H a=some o->ObjOk P w H h a o
end
section
variable {P:Program} {w:World} {H H':Hp} {h h':Heap} {a:Addr} {o:HO}
def ObjOk.lt (x:ObjOk P w H h a o):a < h.objs.size:=by
 cases o with
 | lst xs=>obtain ⟨_,_,_,_,e⟩:=x; exact zal e
 | tup xs=>obtain ⟨_,_,_,p⟩:=x; exact p.lt
 | dK kvs=>obtain ⟨_,_,_,_,o,_,_,e,_⟩:=x; exact zal e
 | dT kvs=>obtain ⟨_,_,_,_,o,_,_,e,_⟩:=x; exact zal e
 | set S n=>obtain ⟨o,_,_,_,e,_⟩:=x; exact zal e
 | ins C dx fs=>obtain ⟨_,_,_,e,_⟩:=x; exact zal e
 | own y=>obtain ⟨_,e⟩:=x; exact zal e
 | xd fs=>obtain ⟨_,⟨_,_,_,e,_⟩,_⟩:=x; exact zal e
 | rng lo hi=>obtain ⟨_,_,_,e⟩:=x; exact zal e
 | frz ob u=>obtain ⟨e,_⟩:=x; exact zal e
 | tbl ps=>exact zal (show h.get? a=some _ from x)
 | met f y=>exact zal (show h.get? a=some _ from x)
 | ext φ=>obtain ⟨_,⟨_,e⟩,_⟩:=x; exact zal e
def Paired.mapP {α β:Type} {F G:α->β->Prop}:∀ {l₁:List α} {l₂:List β},Paired F l₁ l₂->(∀ a b,F a b->G a b)->Paired G l₁ l₂
 | _,_,.nil,_=>.nil
 | _,_,.cons r t,f=>.cons (f _ _ r) (Paired.mapP t f)
def ObjOk.stay (x:ObjOk P w H h a o) (k:∀ b u,(b=a\/H b=some (.own a))->h.get? b=some u->h'.get? b=some u)
  (ho:∀ b,H b=some (.own a)->H' b=some (.own a)) (ht:∀ b xs,H b=some (.tup xs)->H' b=some (.tup xs)):ObjOk P w H' h' a o:=by
 induction o with
 | lst xs=>obtain ⟨z,its,n,r,e⟩:=x; exact ⟨z,its,n,r,k _ _ (.inl rfl) e⟩
 | tup xs=>obtain ⟨z,its,r,ob,e,c⟩:=x; exact ⟨z,its,r,ob,k _ _ (.inl rfl) e,c⟩
 | dK kvs=>obtain ⟨z,y,vs,r,ob,es,ep,e,c⟩:=x; exact ⟨z,y,vs,r,ob,es,ep,k _ _ (.inl rfl) e,c⟩
 | dT kvs =>
  obtain ⟨z,y,xs,r,ob,es,ep,e,c⟩:=x;exact ⟨z,y,xs,Paired.mapP r fun p q z=>⟨z.1,ht _ _ z.2.1,z.2.2⟩,ob,es,ep,k _ _ (.inl rfl) e,c⟩
 | set S n=>obtain ⟨ob,es,ep,t,e,c⟩:=x; exact ⟨ob,es,ep,t,k _ _ (.inl rfl) e,c⟩
 | ins C dx fs =>
  obtain ⟨d,z,ne,e,mA,⟨od,es,ep,e2,c⟩,r⟩:=x;exact ⟨ho _ d,z,ne,k _ _ (.inl rfl) e,mA,⟨od,es,ep,k _ _ (.inr d) e2,c⟩,r⟩
 | own y=>obtain ⟨ob,e⟩:=x; exact ⟨ob,k _ _ (.inl rfl) e⟩
 | xd fs=>obtain ⟨mA,⟨od,es,ep,e,c⟩,r⟩:=x; exact ⟨mA,⟨od,es,ep,k _ _ (.inl rfl) e,c⟩,r⟩
 | rng lo hi=>obtain ⟨t,u,v,e⟩:=x; exact ⟨t,u,v,k _ _ (.inl rfl) e⟩
 | frz ob u ih=>obtain ⟨e,q⟩:=x; exact ⟨k _ _ (.inl rfl) e,ih q⟩
 | tbl ps =>
  have e:h.get? a=some { cls:=.none,data:=.fields ps }:=x;show h'.get? a=some { cls:=.none,data:=.fields ps };exact k a _ (.inl rfl) e
 | met f y =>
  have e:h.get? a=some (PySem.W.methodObj (.ref f) (.ref y)):=x;show h'.get? a=some (PySem.W.methodObj (.ref f) (.ref y));exact k a _ (.inl rfl) e
 | ext φ=>obtain ⟨p,⟨o,e⟩,st⟩:=x; exact ⟨st _ _ p fun o q=>k _ _ (.inl rfl) q,⟨o,k _ _ (.inl rfl) e⟩,st⟩
def HOk.lt (x:HOk P w H h) (e:H a=some o):a < h.objs.size:=(x a o e).lt
def HOk.fresh (x:HOk P w H h) (e:h.objs.size<=a):H a=none:=by
 cases q:H a with
 | none=>rfl
 | some u=>exact absurd (zag (x.lt q) e) (zaI _)
def HOk.kept (x:HOk P w H h) (k:∀ b u,h.get? b=some u->h'.get? b=some u):HOk P w H h':=fun a o e =>
 (x a o e).stay (fun b u _ q=>k b u q) (fun _ q=>q) fun _ _ q=>q
def HOk.laid (x:HOk P w H h) (k:∀ b u,h.get? b=some u->h'.get? b=some u) (hp:h.objs.size<=a) (new:ObjOk P w (upd H a o) h' a o):HOk P w (upd H a o) h':=fun b u e=>by
 have hn:=x.fresh hp;by_cases hb:b=a
 ·subst hb; rw [a8] at e; cases e; exact new
 ·rw [bg hb] at e;exact (x b u e).stay (fun c v _ q=>k c v q) (fun c q=>by rw [bg (eE q hn)]; exact q) fun c xs q=>by rw [bg (eE q hn)]; exact q
end
def Rd (H:Hp) (a:Addr) (u:HO):Prop:=H a=some u\/∃ o,H a=some (.frz o u)
def Rd.ok {P:Program} {w:World} {H:Hp} {h:Heap} {a:Addr} {u:HO} (r:Rd H a u) (x:HOk P w H h):ObjOk P w H h a u:=by
 rcases r with r | ⟨o,r⟩
 ·exact x a u r
 ·obtain ⟨_,q⟩:=x a _ r;exact q
def Mut:Option HO->Prop
 | some (.lst _)=>True
 | some (.dK _)=>True
 | some (.dT _)=>True
 | some (.set _ _)=>True
 | some (.ins _ _ _)=>True
 | some (.ext _)=>True
 | _=>False
section
variable {P:Program} {w:World} {H:Hp} {h h':Heap} {x e:Addr} {o':HO}
def HOk.write (ok:HOk P w H h) (mu:Mut (H x)) (he:e=x\/H e=some (.own x)) (k:∀ b u,b≠e->h.get? b=some u->h'.get? b=some u) (heo:∃ u,h'.get? e=some u)
  (new:ObjOk P w (upd H x o') h' x o'):HOk P w (upd H x o') h':=fun b u q=>by
 have nown:∀ c y,H c=some (.own y)->c≠x:=fun c y r z=>by subst z; rw [r] at mu; exact mu
 have ntup:∀ c xs,H c=some (.tup xs)->c≠x:=fun c xs r z=>by subst z; rw [r] at mu; exact mu
 by_cases hb:b=x
 ·subst hb; rw [a8] at q; cases q; exact new
 ·rw [bg hb] at q;by_cases hbe:b=e
  ·have q':H b=some (.own x):=by
    rcases he with z | z
    ·exact absurd (hbe.trans z) hb
    ·rw [hbe]; exact z
   rw [q] at q'; cases q';obtain ⟨v,hv⟩:=heo;exact ⟨v,by rw [hbe]; exact hv⟩
  ·refine (ok b u q).stay (fun c v hc r=>k c v ?_ r) (fun c r=>by rw [bg (nown c b r)]; exact r) fun c xs r=>by rw [bg (ntup c xs r)]; exact r
   rcases hc with rfl | hc
   ·exact hbe
   ·rintro rfl;rcases he with z | z
    ·exact nown c b hc z
    ·rw [hc] at z; cases z; exact hb rfl
end
structure Un (fs ex:List Addr) (H H':Hp) (h h':Heap):Prop where
 keep:∀ b o,h.get? b=some o->H b=none->b ∉ fs->b ∉ ex->h'.get? b=some o
 slot:∀ b o,h.get? b=some o->H b=none->b∈fs->b ∉ ex->∃ sl,h'.get? b=some { o with slots:=sl }
 free:∀ b o,h.get? b=some o->H b=none->b ∉ ex->H' b=none
 there:∀ b o,h.get? b=some o->b ∉ ex->∃ o',h'.get? b=some o'
 tups:∀ b xs,H b=some (.tup xs)->H' b=some (.tup xs)
 frzs:∀ b o u,H b=some (.frz o u)->H' b=some (.frz o u)
 tbls:∀ b ps,H b=some (.tbl ps)->∃ more,H' b=some (.tbl (ps++more))
section
variable {fs fs' ex ex':List Addr} {H H1 H2:Hp} {h h1 h2 h':Heap} {a x e:Addr} {o:HO}
def Un.any (u:Un fs ex H H1 h h1) {b:Addr} {ob:Obj} (q:h.get? b=some ob) (n:H b=none) (hx:b ∉ ex):∃ sl,h1.get? b=some { ob with slots:=sl }:=by
 by_cases hb:b∈fs
 ·exact u.slot b ob q n hb hx
 ·exact ⟨ob.slots,u.keep b ob q n hb hx⟩
def Un.trans (a:Un fs ex H H1 h h1) (b:Un fs ex H1 H2 h1 h2):Un fs ex H H2 h h2 where
 keep:=fun c ob q n hc hx=>b.keep c ob (a.keep c ob q n hc hx) (a.free c ob q n hx) hc hx
 slot:=fun c ob q n hc hx=>by
  obtain ⟨sl,e1⟩:=a.slot c ob q n hc hx;obtain ⟨sl',e2⟩:=b.slot c _ e1 (a.free c ob q n hx) hc hx;exact ⟨sl',e2⟩
 free:=fun c ob q n hx=>by
  obtain ⟨o',e1⟩:=a.there c ob q hx;exact b.free c o' e1 (a.free c ob q n hx) hx
 there:=fun c ob q hx=>by
  obtain ⟨o',e1⟩:=a.there c ob q hx;exact b.there c o' e1 hx
 tups:=fun c xs q=>b.tups c xs (a.tups c xs q)
 frzs:=fun c ob xs q=>b.frzs c ob xs (a.frzs c ob xs q)
 tbls:=fun c ps q=>by
  obtain ⟨m1,e1⟩:=a.tbls c ps q;obtain ⟨m2,e2⟩:=b.tbls c _ e1;exact ⟨m1++m2,by rw [e2,Array.append_assoc]⟩
def Un.kept (k:∀ b u,h.get? b=some u->h'.get? b=some u):Un fs ex H H h h' :=
 ⟨fun b ob q _ _ _=>k b ob q,fun b ob q _ _ _=>⟨ob.slots,k b ob q⟩,fun _ _ _ n _=>n,fun b ob q _=>⟨ob,k b ob q⟩,fun _ _ q=>q,fun _ _ _ q=>q,fun _ ps q=>⟨#[],by rw [q]; simp⟩⟩
def Un.refl:Un fs ex H H h h:=Un.kept fun _ _ q=>q
def Un.laid (k:∀ b u,h.get? b=some u->h'.get? b=some u) (hp:h.objs.size<=a) (hn:H a=none):Un fs ex H (upd H a o) h h' where
 keep:=fun b u q _ _ _=>k b u q
 slot:=fun b u q _ _ _=>⟨u.slots,k b u q⟩
 free:=fun b u q n _=>by rw [bg (zaw (zag (zal q) hp))]; exact n
 there:=fun b u q _=>⟨u,k b u q⟩
 tups:=fun b xs q=>by rw [bg (eE q hn)]; exact q
 frzs:=fun b u xs q=>by rw [bg (eE q hn)]; exact q
 tbls:=fun b ps q=>⟨#[],by rw [bg (eE q hn),q]; simp⟩
def Un.write (mu:Mut (H x)) (he:e=x\/H e=some (.own x)) (k:∀ b u,b≠e->h.get? b=some u->h'.get? b=some u) (heo:∃ u,h'.get? e=some u):Un fs ex H (upd H x o) h h':=by
 have hx:∀ b,H b=none->b≠x:=fun b n z=>by subst z; rw [n] at mu; exact mu
 have hb:∀ b,H b=none->b≠e:=fun b n z=>by
  subst z;rcases he with r | r
  ·exact hx b n r
  ·rw [n] at r; cases r
 have hm:∀ b u,H b=some u->¬ Mut (some u)->b≠x:=fun b u q nm z=>by subst z; rw [q] at mu; exact nm mu
 refine ⟨fun b u q n _ _=>k b u (hb b n) q,fun b u q n _ _=>⟨u.slots,k b u (hb b n) q⟩,fun b u q n _=>by rw [bg (hx b n)]; exact n,fun b u q _=>?_,
  fun b xs q=>by rw [bg (hm b _ q fun z=>z)]; exact q,fun b u xs q=>by rw [bg (hm b _ q fun z=>z)]; exact q,fun b ps q=>⟨#[],by rw [bg (hm b _ q fun z=>z),q]; simp⟩⟩
 by_cases hbe:b=e
 ·subst hbe; exact heo
 ·exact ⟨u,k b u hbe q⟩
end
def trk (h:Heap) (H:Hp):List Addr:=(List.range h.objs.size).filter fun a=>(H a).isSome
def iI (h:Heap) (H:Hp):Heap:=PySem.W.hideAll h (trk h H)
def qH (h:Heap) (H:Hp):(iI h H).objs.size=h.objs.size:=PySem.W.hideAll_size _ _
def sv {h:Heap} {H:Hp} {b:Addr} {o:Obj} (e:h.get? b=some o) (n:H b=none):(iI h H).get? b=some o :=
 PySem.W.hideAll_get _ e fun hm=>by
  have q:(H b).isSome=true:=(List.mem_filter.mp hm).2;rw [n] at q; simp at q
def Ag {h:Heap} {H:Hp} {b:Addr} {o:Obj} (e:(iI h H).get? b=some o):h.get? b=some o/\H b=none:=by
 have e':h.get? b=some o:=PySem.W.of_hideAll (trk h H) e;refine ⟨e',?_⟩;cases q:H b with
 | none=>rfl
 | some x =>
  have hm:b∈trk h H:=List.mem_filter.mpr ⟨List.mem_range.mpr (zal e'),by simp [q]⟩;have z:(iI h H).get? b=none:=PySem.W.hideAll_none (trk h H) hm;rw [z] at e; cases e
def A7 (g h:Heap) (L:Addr):List (Addr × Obj):=(List.range h.objs.size).filterMap fun a=>if a=L\/(g.get? a).isSome=true then none else (h.get? a).map fun o=>(a,o)
def rest (g h:Heap) (L d:Addr):List (Addr × Obj):=(A7 g h L).filter fun p=>decide (p.1≠d)
structure Mod (K:PySem.W.Frag) (mg:Str->Option Value) (base:Heap):Prop where
 kin:K.In base
 glob:base.Ns mainGlobals mg
 blt:∃ mb,base.Ns builtinsNs mb/\∀ x:Str,x≠"__name__"->mb x=bootBuiltins x
 nolimit:base.NoLimit
 mods:∃ mm,base.Ns sysModules mm
structure Cx where
 prog:Program
 w:World
 K:PySem.W.Frag
 mg:Str->Option Value
 base:Heap
 A:Around
 N:List Str
 s₀:Shared
 H₀:Hp
 env:Env
 outer:List Env
 stack:List Env
 ex:List Addr
 fn:Str->Bool
 calm:Bool
 pn:List (Addr × Obj)
 xe:Value->Shared->Prop
def frs (l:List Env):List Addr:=l.filterMap (·.frame)
abbrev Cx.fs (X:Cx):List Addr:=frs X.outer
def Vis (sc:Scope) (x:Str):Prop:=sc.names.lookup x=some .local\/sc.names.lookup x=some .cell\/sc.names.lookup x=some .free
def Loc (sc:Scope) (x:Str):Prop:=sc.names.lookup x=some .local\/sc.names.lookup x=some .cell
def Go (env:Env) (h:Heap) (m:Str->Option Value) (x:Str) (u:Value):Prop :=
 (env.kindOf x=some .local/\m x=some u)\/((env.kindOf x=some .cell\/env.kindOf x=some .free)/\∃ c,env.cells.lookup x=some c/\h.IsCell c (some u))
structure Cx.Ok (X:Cx):Prop where
 mod:Mod X.K X.mg X.base
 kind:X.env.scope.kind=.function
 glob:X.env.globals=mainGlobals
 blt:X.env.builtins=builtinsNs
 above:X.s₀.heap.objs.size<=X.env.locals
 inj:∀ x y c,X.env.cells.lookup x=some c->X.env.cells.lookup y=some c->x=y
 has:∀ x,(X.env.kindOf x=some .cell\/X.env.kindOf x=some .free)->∃ c,X.env.cells.lookup x=some c
 cab:∀ x c,X.fn x=true->X.env.cells.lookup x=some c->X.s₀.heap.objs.size<=c
 hd:X.calm=true->X.A.handled=none
 frames:X.A.frames=some X.stack
 stk:X.stack=X.outer\/(X.stack=X.env :: X.outer/\X.env.frame=some X.env.locals)
 exf:∀ b∈X.ex,b≠X.env.locals/\∀ x c,X.env.cells.lookup x=some c->c≠b
 bs:∀ b o,X.base.get? b=some o->X.s₀.heap.get? b=some o/\X.H₀ b=none
 bsz:X.base.objs.size<=X.s₀.heap.objs.size
 noex:∀ b o,X.base.get? b=some o->b ∉ X.ex
 exfs:∀ b∈X.ex,b ∉ X.fs
 funs:X.s₀.heap.FunFrames X.base X.outer
 frf:∀ b∈X.fs,X.H₀ b=none
structure Inv (X:Cx) (pins:List (Addr × Obj)) (σ:List (Option V)) (H:Hp) (s:Shared):Prop where
 ok:X.Ok
 os:s.os=X.s₀.os
 bare:AllBare s.gens
 base:Un X.fs X.ex X.H₀ H X.s₀.heap s.heap
 loc:∃ m,s.heap.Ns X.env.locals m/\∀ (i:Nat) (x:Str) (v:V),X.N[i]?=some x->σ[i]?=some (some v)->Vis X.env.scope x->∃ u,RelV v u/\Go X.env s.heap m x u
 cell:∀ x c,X.env.cells.lookup x=some c->∃ v,s.heap.IsCell c v
 free:H X.env.locals=none
 freeC:∀ x c,X.env.cells.lookup x=some c->H c=none
 pin:∀ p∈X.pn++pins,s.heap.get? p.1=some p.2/\H p.1=none/\p.1≠X.env.locals/\p.1 ∉ X.fs/\∀ v,p.2.data≠.cell v
 hok:HOk X.prog X.w H s.heap
 len:σ.length=X.N.length
section
variable {X:Cx} {pins:List (Addr × Obj)} {σ:List (Option V)} {H H':Hp} {s:Shared} {h':Heap}
def Cx.Ok.nofr (ok:X.Ok) {b:Addr} {o:Obj} (e:X.base.get? b=some o):b ∉ X.fs:=fun hb=>by
 have:=(ok.funs.mem hb).1;rw [e] at this; cases this
def Inv.bs (I:Inv X pins σ H s):∀ b o,X.base.get? b=some o->s.heap.get? b=some o/\H b=none:=fun b o e =>
 ⟨I.base.keep b o (I.ok.bs b o e).1 (I.ok.bs b o e).2 (I.ok.nofr e) (I.ok.noex b o e),I.base.free b o (I.ok.bs b o e).1 (I.ok.bs b o e).2 (I.ok.noex b o e)⟩
def Inv.bk (I:Inv X pins σ H s):∀ b o,X.base.get? b=some o->s.heap.get? b=some o:=fun b o e=>(I.bs b o e).1
def Inv.mod (I:Inv X pins σ H s):Mod X.K X.mg X.base:=I.ok.mod
def Inv.kIn (I:Inv X pins σ H s):X.K.In s.heap:=I.ok.mod.kin.keeps I.bk
def Inv.lt (I:Inv X pins σ H s):X.env.locals < s.heap.objs.size:=let ⟨_,hn,_⟩:=I.loc; hn.lt
def Inv.sz (I:Inv X pins σ H s):X.s₀.heap.objs.size<=s.heap.objs.size:=zau I.ok.above (Nat.le_of_lt I.lt)
def Inv.nofs (I:Inv X pins σ H s) {a:Addr} (h:s.heap.objs.size<=a):a ∉ X.fs:=fun hb=>by
 obtain ⟨_,o,ho,_⟩:=I.ok.funs.mem hb;exact absurd (zag (zal ho) (zau I.sz h)) (zaI _)
def Inv.cne (I:Inv X pins σ H s):∀ x c,X.env.cells.lookup x=some c->c≠X.env.locals:=fun x c e z=>by
 obtain ⟨v,o,ho,hd⟩:=I.cell x c e;obtain ⟨m,⟨o',es,ep,ho',hd',_⟩,_⟩:=I.loc;rw [z,ho'] at ho; cases ho; rw [hd'] at hd; cases hd
def Inv.funs (I:Inv X pins σ H s):s.heap.FunFrames X.base X.outer:=by
 have all:∀ (l:List Env),(∀ b∈frs l,b∈X.fs)->X.s₀.heap.FunFrames X.base l->s.heap.FunFrames X.base l:=by
  intro l
  induction l with
  | nil=>intro _ _; trivial
  | cons env r ih =>
   intro hs hl;obtain ⟨hk,⟨L,o,hf,hn,ho,hd⟩,hr⟩:=hl;have hL:L∈X.fs:=hs L (by unfold frs; rw [List.filterMap_cons,hf]; exact zaq);obtain ⟨sl,e⟩:=I.base.slot L o ho (I.ok.frf L hL) hL fun z=>I.ok.exfs L z hL;exact ⟨hk,⟨L,_,hf,hn,e,hd⟩,ih (fun b hb=>hs b (by unfold frs; rw [List.filterMap_cons,hf]; exact zaj _ hb)) hr⟩
 exact all X.outer (fun _ hb=>hb) I.ok.funs
def Inv.stack (I:Inv X pins σ H s):s.heap.FunFrames X.base X.stack:=by
 rcases I.ok.stk with e | ⟨e,hf⟩
 ·rw [e]; exact I.funs
 ·rw [e];obtain ⟨m,hn,_⟩:=I.loc;refine .cons (by rw [I.ok.kind]; decide) hf hn ?_ I.funs;exact Heap.get?_none_of_le (zau I.ok.bsz I.ok.above)
def Inv.stkSub (I:Inv X pins σ H s):∀ b∈frs X.stack,b∈X.env.locals :: X.fs:=fun b hb=>by
 rcases I.ok.stk with e | ⟨e,hf⟩
 ·rw [e] at hb; exact zaj _ hb
 ·rw [e] at hb;unfold frs at hb;rw [List.filterMap_cons,hf] at hb;exact hb
def Inv.stkFree (I:Inv X pins σ H s):∀ b∈frs X.stack,H b=none:=fun b hb=>by
 rcases zay.mp (I.stkSub b hb) with e | hb
 ·rw [e]; exact I.free
 ·obtain ⟨_,o,ho,_⟩:=I.ok.funs.mem hb;exact I.base.free b o ho (I.ok.frf b hb) fun z=>I.ok.exfs b z hb
def Inv.step {g':Array GenState} {t':Nat} {d':Drawn} {ch:List Addr} (I:Inv X pins σ H s)
  (hch:∀ b∈ch,(b∈X.ex\/X.s₀.heap.objs.size<=b)/\b≠X.env.locals/\(∀ x c,X.env.cells.lookup x=some c->c≠b)/\∀ p∈X.pn++pins,p.1≠b)
  (keep:∀ b o,b≠X.env.locals->b ∉ X.fs->b ∉ ch->s.heap.get? b=some o->H b=none->h'.get? b=some o)
  (slot:∀ b o,b≠X.env.locals->b∈X.fs->b ∉ ch->s.heap.get? b=some o->H b=none->∃ sl,h'.get? b=some { o with slots:=sl }) (free:∀ b o,b ∉ ch->s.heap.get? b=some o->H b=none->H' b=none)
  (there:∀ b o,b ∉ ch->s.heap.get? b=some o->∃ o',h'.get? b=some o')
  (tups:∀ b xs,H b=some (.tup xs)->H' b=some (.tup xs)) (frzs:∀ b o u,H b=some (.frz o u)->H' b=some (.frz o u)) (tbls:∀ b ps,H b=some (.tbl ps)->∃ more,H' b=some (.tbl (ps++more)))
  (ns:∀ m,s.heap.Ns X.env.locals m->h'.Ns X.env.locals m) (hok:HOk X.prog X.w H' h') (hg:AllBare g') :
  Inv X pins σ H' { s with heap:=h',gens:=g',drawn:=d',toks:=t' }:=by
 have neL:∀ b o,X.s₀.heap.get? b=some o->b≠X.env.locals:=fun b o e=>zaw (zag (zal e) I.ok.above);have neC:∀ b o,X.s₀.heap.get? b=some o->b ∉ X.ex->b ∉ ch:=fun b o e hx hb=>by
  rcases (hch b hb).1 with z | z
  ·exact hx z
  ·exact absurd (zag (zal e) z) (zaI _)
 have cellK:∀ x c,X.env.cells.lookup x=some c->∀ v,s.heap.IsCell c v->h'.IsCell c v:=fun x c e v ⟨o,ho,hd⟩=>by
  have nch:c ∉ ch:=fun z=>(hch c z).2.2.1 x c e rfl;by_cases hc:c∈X.fs
  ·obtain ⟨sl,q⟩:=slot c o (I.cne x c e) hc nch ho (I.freeC x c e);exact ⟨_,q,hd⟩
  ·exact ⟨o,keep c o (I.cne x c e) hc nch ho (I.freeC x c e),hd⟩
 refine ⟨I.ok,I.os,hg,⟨fun b o e n hb hx=>?_,fun b o e n hb hx=>?_,fun b o e n hx=>?_,fun b o e hx=>?_,fun b xs e=>tups b xs (I.base.tups b xs e),fun b o xs e=>frzs b o xs (I.base.frzs b o xs e),fun b ps e=>?_⟩,?_,fun x c e=>?_,?_,fun x c e=>?_,fun p hp=>?_,hok,I.len⟩
 ·exact keep b o (neL b o e) hb (neC b o e hx) (I.base.keep b o e n hb hx) (I.base.free b o e n hx)
 ·obtain ⟨sl,e1⟩:=I.base.slot b o e n hb hx;obtain ⟨sl',e2⟩:=slot b _ (neL b o e) hb (neC b o e hx) e1 (I.base.free b o e n hx);exact ⟨sl',e2⟩
 ·obtain ⟨o',e1⟩:=I.base.there b o e hx;exact free b o' (neC b o e hx) e1 (I.base.free b o e n hx)
 ·obtain ⟨o',e1⟩:=I.base.there b o e hx;exact there b o' (neC b o e hx) e1
 ·obtain ⟨m1,e1⟩:=I.base.tbls b ps e;obtain ⟨m2,e2⟩:=tbls b _ e1;exact ⟨m1++m2,by rw [e2,Array.append_assoc]⟩
 ·obtain ⟨m,hn,hl⟩:=I.loc;refine ⟨m,ns m hn,fun i x v e1 e2 e3=>?_⟩;obtain ⟨u,r,l⟩:=hl i x v e1 e2 e3;refine ⟨u,r,?_⟩;rcases l with l | ⟨k,c,e,z⟩
  ·exact .inl l
  ·exact .inr ⟨k,c,e,cellK x c e _ z⟩
 ·obtain ⟨v,z⟩:=I.cell x c e;exact ⟨v,cellK x c e v z⟩
 ·obtain ⟨m,⟨o,_,_,ho,_⟩,_⟩:=I.loc;exact free _ o (fun z=>(hch _ z).2.1 rfl) ho I.free
 ·obtain ⟨v,o,ho,hd⟩:=I.cell x c e;exact free c o (fun z=>(hch c z).2.2.1 x c e rfl) ho (I.freeC x c e)
 ·obtain ⟨e,n,ne,nf,d⟩:=I.pin p hp;have nch:p.1 ∉ ch:=fun z=>(hch p.1 z).2.2.2 p hp rfl;exact ⟨keep p.1 p.2 ne nf nch e n,free p.1 p.2 nch e n,ne,nf,d⟩
def Inv.un {t':Nat} (I:Inv X pins σ H s) (u:Un X.fs [] H H' s.heap h') (hok:HOk X.prog X.w H' h'):Inv X pins σ H' { s with heap:=h',toks:=t' }:=by
 obtain ⟨m,⟨o,es,ep,ho,r⟩,_⟩:=id I.loc;obtain ⟨sl,hL⟩:=u.any ho I.free (by simp);exact I.step (g':=s.gens) (d':=s.drawn) (ch:=[]) (fun _ z=>nomatch z) (fun b o _ hb _ e n=>u.keep b o e n hb (by simp)) (fun b o _ hb _ e n=>u.slot b o e n hb (by simp)) (fun b o _ e n=>u.free b o e n (by simp)) (fun b o _ e=>u.there b o e (by simp)) u.tups u.frzs u.tbls (fun m' hm=>by
  obtain ⟨o',es',ep',ho',r'⟩:=hm;rw [ho] at ho'; cases ho';exact ⟨_,es',ep',hL,r'⟩) hok I.bare
def Inv.call {g':Array GenState} {t':Nat} {d':Drawn} {ch:List Addr} (I:Inv X pins σ H s) (u:Un (frs X.stack) ch H H' s.heap h') (hok:HOk X.prog X.w H' h') (hg:AllBare g')
  (hch:∀ b∈ch,(b∈X.ex\/X.s₀.heap.objs.size<=b)/\b≠X.env.locals/\(∀ x c,X.env.cells.lookup x=some c->c≠b)/\∀ p∈X.pn++pins,p.1≠b) :
  Inv X pins σ H' { s with heap:=h',gens:=g',drawn:=d',toks:=t' }:=by
 obtain ⟨m,⟨o,es,ep,ho,r⟩,_⟩:=id I.loc;obtain ⟨sl,hL⟩:=u.any ho I.free fun z=>(hch _ z).2.1 rfl;exact I.step (ch:=ch) hch (fun b o hL hb hc e n=>u.keep b o e n (fun z=>(zay.mp (I.stkSub b z)).elim hL hb) hc) (fun b o _ _ hc e n=>u.any e n hc) (fun b o hc e n=>u.free b o e n hc) (fun b o hc e=>u.there b o e hc) u.tups u.frzs u.tbls (fun m' hm=>by
  obtain ⟨o',es',ep',ho',r'⟩:=hm;rw [ho] at ho'; cases ho';exact ⟨_,es',ep',hL,r'⟩) hok hg
def Inv.turned {t':Nat} {it:Addr} (I:Inv X pins σ H s) (k:∀ b o,b≠it->s.heap.get? b=some o->h'.get? b=some o) (hn:H it=none) (hL:it≠X.env.locals)
  (h1:it∈X.ex\/X.s₀.heap.objs.size<=it) (h2:∀ x c,X.env.cells.lookup x=some c->c≠it) (h3:∀ p∈X.pn++pins,p.1≠it):Inv X pins σ H { s with heap:=h',toks:=t' }:=by
 have nit:∀ b u,H b=some u->b≠it:=fun b u e z=>by rw [z,hn] at e; cases e
 refine I.step (g':=s.gens) (d':=s.drawn) (ch:=[it]) (fun b hb=>?_) (fun b o _ _ hc e _=>k b o (fun z=>hc (by simp [z])) e) (fun b o _ _ hc e _=>⟨o.slots,k b o (fun z=>hc (by simp [z])) e⟩) (fun _ _ _ _ n=>n)
  (fun b o hc e=>⟨o,k b o (fun z=>hc (by simp [z])) e⟩) (fun _ _ e=>e) (fun _ _ _ e=>e) (fun b ps e=>⟨#[],by rw [e]; simp⟩) (fun m hm=>?_) (fun b u e=>?_) I.bare
 ·have e:b=it:=by simpa using hb
  subst e;exact ⟨h1,hL,h2,h3⟩
 ·obtain ⟨o,es,ep,ho,r⟩:=hm;exact ⟨o,es,ep,k _ o (Ne.symm hL) ho,r⟩
 ·refine (I.hok b u e).stay (fun c v hc q=>k c v ?_ q) (fun _ q=>q) fun _ _ q=>q;rcases hc with z | z
  ·rw [z]; exact nit b u e
  ·exact nit c _ z
def Inv.tok (I:Inv X pins σ H s) (t:Nat):Inv X pins σ H { s with toks:=t }:=I.un (h':=s.heap) (t':=t) Un.refl I.hok
def Inv.kept {t':Nat} (I:Inv X pins σ H s) (k:∀ b u,s.heap.get? b=some u->h'.get? b=some u):Inv X pins σ H { s with heap:=h',toks:=t' }:=I.un (Un.kept k) (I.hok.kept k)
def Inv.laid {a:Addr} {o:HO} {t':Nat} (I:Inv X pins σ H s) (k:∀ b u,s.heap.get? b=some u->h'.get? b=some u) (hp:s.heap.objs.size<=a) (new:ObjOk X.prog X.w (upd H a o) h' a o) :
  Inv X pins σ (upd H a o) { s with heap:=h',toks:=t' }:=I.un (Un.laid k hp (I.hok.fresh hp)) (I.hok.laid k hp new)
def Inv.write {x e:Addr} {o:HO} {t':Nat} (I:Inv X pins σ H s) (mu:Mut (H x)) (he:e=x\/H e=some (.own x)) (k:∀ b u,b≠e->s.heap.get? b=some u->h'.get? b=some u) (heo:∃ u,h'.get? e=some u)
  (new:ObjOk X.prog X.w (upd H x o) h' x o):Inv X pins σ (upd H x o) { s with heap:=h',toks:=t' }:=I.un (Un.write mu he k heo) (I.hok.write mu he k heo new)
def Inv.pins_of {pins':List (Addr × Obj)} (I:Inv X pins σ H s) (h:∀ p∈pins',s.heap.get? p.1=some p.2/\H p.1=none/\p.1≠X.env.locals/\p.1 ∉ X.fs/\∀ v,p.2.data≠.cell v):Inv X pins' σ H s :=
 ⟨I.ok,I.os,I.bare,I.base,I.loc,I.cell,I.free,I.freeC,fun p hp=>(zax.mp hp).elim (fun z=>I.pin p (List.mem_append_left _ z)) (h p),I.hok,I.len⟩
def ni {N:List Str} (hN:N.Nodup) {i j:Nat} {x:Str} (a:N[i]?=some x) (b:N[j]?=some x):i=j:=by
 obtain ⟨h1,e1⟩:=zah.mp a;obtain ⟨h2,e2⟩:=zah.mp b;exact (List.getElem_inj hN).mp (e1.trans e2.symm)
def qb {M:Model} {A:Around} {E:Value->Shared->Prop} {i:Nat} {x:Str} {v:V} {u:Value} {Q:Unit->Shared->Prop} (I:Inv X pins σ H s) (hN:X.N.Nodup) (hi:X.N[i]?=some x) (hx:Loc X.env.scope x) (r:RelV v u)
  (h:∀ s',Inv X pins (σ.set i (some v)) H s'->(∃ a,Heap.SameBut a s.heap s'.heap/\(a=X.env.locals\/X.env.cells.lookup x=some a))->Q () s') (hf:X.fn x=true\/X.env.scope.names.lookup x=some .local:=by first | exact .inl rfl | exact .inr rfl | assumption):wpAny M A (storeName X.env x u) Q E s:=by
 obtain ⟨m,hn,hl⟩:=id I.loc;have hcls:(X.env.scope.kind == .class || (X.env.scope.kind == .module && X.env.locals != X.env.globals))=false:=by rw [I.ok.kind]; rfl
 have hiσ:i < σ.length:=by rw [I.len]; exact (zah.mp hi).1
 have cne:=I.cne;have tracked:∀ {a:Addr} {h':Heap},(∃ o,s.heap.get? a=some o/\H a=none)->Heap.SameBut a s.heap h'->HOk X.prog X.w H h':=fun {a h'} ha hs b ob e=>by
  obtain ⟨_,_,hfree⟩:=ha;refine (I.hok b ob e).stay (fun c w' hc q=>(hs.2 c ?_).trans q) (fun _ q=>q) fun _ _ q=>q;rintro rfl;rcases hc with rfl | hc
  ·rw [hfree] at e; cases e
  ·rw [hfree] at hc; cases hc
 rcases hx with hk | hk
 ·refine wpAny_storeName_local hk hn (fun h' hn' hs=>?_) hcls;obtain ⟨oL,_,_,hoL,_⟩:=id hn;refine h _ ⟨I.ok,I.os,I.bare,⟨fun b o e n hb hx=>?_,fun b o e n hb hx=>?_,I.base.free,fun b o e hx=>?_,I.base.tups,I.base.frzs,I.base.tbls⟩,⟨_,hn',fun j y v' e1 e2 e3=>?_⟩,fun y c e=>?_,I.free,I.freeC,fun p hp=>?_,tracked ⟨oL,hoL,I.free⟩ hs,by simpa using I.len⟩ ⟨_,hs,.inl rfl⟩
  ·exact (hs.2 b (zaw (zag (zal e) I.ok.above))).trans (I.base.keep b o e n hb hx)
  ·obtain ⟨sl,e1⟩:=I.base.slot b o e n hb hx;exact ⟨sl,(hs.2 b (zaw (zag (zal e) I.ok.above))).trans e1⟩
  ·obtain ⟨o',e1⟩:=I.base.there b o e hx;exact ⟨o',(hs.2 b (zaw (zag (zal e) I.ok.above))).trans e1⟩
  ·by_cases hj:j=i
   ·subst hj;rw [hi] at e1; cases e1;rw [zaP hiσ] at e2;cases e2;exact ⟨u,r,.inl ⟨hk,by simp⟩⟩
   ·rw [zaO (Ne.symm hj)] at e2;obtain ⟨u',r',q⟩:=hl j y v' e1 e2 e3;refine ⟨u',r',?_⟩;rcases q with ⟨k,e⟩ | ⟨k,c,e,z⟩
    ·refine .inl ⟨k,?_⟩
     have:y≠x:=fun e=>hj (ni hN e1 (e ▸ hi));simp [this,e]
    ·exact .inr ⟨k,c,e,z.sameBut hs (cne y c e)⟩
  ·obtain ⟨w',z⟩:=I.cell y c e;exact ⟨w',z.sameBut hs (cne y c e)⟩
  ·obtain ⟨e,n,ne,nf,d⟩:=I.pin p hp;exact ⟨(hs.2 p.1 ne).trans e,n,ne,nf,d⟩
 ·have hfn:X.fn x=true:=by
   rcases hf with z | z
   ·exact z
   ·rw [z] at hk; cases hk
  obtain ⟨c,hc⟩:=I.ok.has x (.inl hk);obtain ⟨w',z⟩:=I.cell x c hc;refine wpAny_storeName_cell I.ok.kind hk hc z (fun h' hc' hs=>?_);obtain ⟨oc,hoc,hocd⟩:=id z;refine h { s with heap:=h' } ⟨I.ok,I.os,I.bare,⟨fun b o e n hb hx=>?_,fun b o e n hb hx=>?_,I.base.free,fun b o e hx=>?_,I.base.tups,I.base.frzs,I.base.tbls⟩,⟨m,hn.sameBut hs (Ne.symm (cne x c hc)),fun j y v' e1 e2 e3=>?_⟩,fun y c' e=>?_,I.free,I.freeC,fun p hp=>?_,tracked ⟨oc,hoc,I.freeC x c hc⟩ hs,by simpa using I.len⟩ ⟨c,hs,.inr hc⟩
  ·exact (hs.2 b (zaw (zag (zal e) (I.ok.cab x c hfn hc)))).trans (I.base.keep b o e n hb hx)
  ·obtain ⟨sl,e1⟩:=I.base.slot b o e n hb hx;exact ⟨sl,(hs.2 b (zaw (zag (zal e) (I.ok.cab x c hfn hc)))).trans e1⟩
  ·obtain ⟨o',e1⟩:=I.base.there b o e hx;exact ⟨o',(hs.2 b (zaw (zag (zal e) (I.ok.cab x c hfn hc)))).trans e1⟩
  ·by_cases hj:j=i
   ·subst hj;rw [hi] at e1; cases e1;rw [zaP hiσ] at e2;cases e2;exact ⟨u,r,.inr ⟨.inl hk,c,hc,hc'⟩⟩
   ·rw [zaO (Ne.symm hj)] at e2;obtain ⟨u',r',q⟩:=hl j y v' e1 e2 e3;refine ⟨u',r',?_⟩;rcases q with q | ⟨k,c',e,z'⟩
    ·exact .inl q
    ·refine .inr ⟨k,c',e,z'.sameBut hs ?_⟩;rintro rfl;exact hj (ni hN e1 (I.ok.inj _ _ _ e hc ▸ hi))
  ·by_cases hcc:c'=c
   ·subst hcc; exact ⟨_,hc'⟩
   ·obtain ⟨w2,z2⟩:=I.cell y c' e;exact ⟨w2,z2.sameBut hs hcc⟩
  ·obtain ⟨e,n,ne,nf,d⟩:=I.pin p hp;refine ⟨(hs.2 p.1 ?_).trans e,n,ne,nf,d⟩;intro q;rw [q,hoc] at e;have q':oc=p.2:=zat e;exact d w' (by rw [<- q']; exact hocd)
def m4 {M:Model} {A:Around} {E:Value->Shared->Prop} {i:Nat} {x:Str} {v:V} {u:Value} {Q:Unit->Shared->Prop} (I:Inv X pins σ H s) (hN:X.N.Nodup) (hi:X.N[i]?=some x) (hx:Loc X.env.scope x) (r:RelV v u)
  (h:∀ s',Inv X pins (σ.set i (some v)) H s'->Q () s') (hf:X.fn x=true\/X.env.scope.names.lookup x=some .local:=by first | exact .inl rfl | exact .inr rfl | assumption):wpAny M A (storeName X.env x u) Q E s :=
 qb I hN hi hx r (fun s' I' _=>h s' I') hf
def Inv.call' {s':Shared} {ch:List Addr} (I:Inv X pins σ H s) (ho:s'.os=s.os) (u:Un (frs X.stack) ch H H' s.heap s'.heap) (hok:HOk X.prog X.w H' s'.heap) (hg:AllBare s'.gens)
  (hch:∀ b∈ch,(b∈X.ex\/X.s₀.heap.objs.size<=b)/\b≠X.env.locals/\(∀ x c,X.env.cells.lookup x=some c->c≠b)/\∀ p∈X.pn++pins,p.1≠b):Inv X pins σ H' s':=by
 obtain ⟨h',g',d',t',o'⟩:=s';have e:o'=s.os:=ho;subst e;exact I.call (g':=g') (t':=t') (d':=d') u hok hg hch
end
abbrev XK:=Value->Option Addr->Hp->Prop
abbrev St:=List (Option V)
abbrev VK:=V->Hp->Prop
abbrev TE:=St->Hp->VK->Prop
abbrev TT:=St->Hp->(Bool->Hp->Prop)->Prop
abbrev TA:=St->Hp->(List V->Hp->Prop)->Prop
structure Ends where
 nx:St->Hp->Prop
 rt:VK
 bk:St->Hp->Prop:=fun _ _=>False
 ct:St->Hp->Prop:=fun _ _=>False
abbrev TS:=Ends->St->Hp->Prop
def EP (X:Cx) (pins:List (Addr × Obj)) (σ:St) (Q:VK) (u:Value) (s':Shared):Prop:=∃ v H',Inv X pins σ H' s'/\RelV v u/\Q v H'
def TP (X:Cx) (pins:List (Addr × Obj)) (σ:St) (Q:Bool->Hp->Prop) (b:Bool) (s':Shared):Prop:=∃ H',Inv X pins σ H' s'/\Q b H'
def AP (X:Cx) (pins:List (Addr × Obj)) (σ:St) (Q:List V->Hp->Prop) (us:List Value) (s':Shared):Prop:=∃ vs H',Inv X pins σ H' s'/\Vals vs us/\Q vs H'
def SP (X:Cx) (pins:List (Addr × Obj)) (D:Ends) (f:Flow) (s':Shared):Prop :=
 match f with
 | .next=>∃ σ' H',Inv X pins σ' H' s'/\D.nx σ' H'
 | .brk=>∃ σ' H',Inv X pins σ' H' s'/\D.bk σ' H'
 | .cont=>∃ σ' H',Inv X pins σ' H' s'/\D.ct σ' H'
 | .ret u=>∃ v σ' H',Inv X pins σ' H' s'/\RelV v u/\D.rt v H'
def PE (X:Cx) (e:Expr) (t:TE):Prop :=
 ∀ (pins:List (Addr × Obj)) (s:Shared) (σ:St) (H:Hp) (Q:VK),Inv X pins σ H s->t σ H Q->wpAny (model X.prog X.w) X.A (eval e X.env) (EP X pins σ Q) X.xe s
def PT (X:Cx) (e:Expr) (t:TT):Prop :=
 ∀ (pins:List (Addr × Obj)) (s:Shared) (σ:St) (H:Hp) (Q:Bool->Hp->Prop),Inv X pins σ H s->t σ H Q->wpAny (model X.prog X.w) X.A (isTrue e X.env (eval e X.env)) (TP X pins σ Q) X.xe s
def PW (X:Cx) (e:Expr) (t:TT):Prop :=
 ∀ (whole:Sem Value) (pins:List (Addr × Obj)) (s:Shared) (σ:St) (H:Hp) (Q:Bool->Hp->Prop),Inv X pins σ H s->t σ H Q->wpAny (model X.prog X.w) X.A (isTrue e X.env whole) (TP X pins σ Q) X.xe s
def PW.pt {X:Cx} {e:Expr} {t:TT} (h:PW X e t):PT X e t:=h _
def PA (X:Cx) (es:List Expr) (t:TA):Prop :=
 ∀ (pos:Pos) (pins:List (Addr × Obj)) (s:Shared) (σ:St) (H:Hp) (Q:List V->Hp->Prop),Inv X pins σ H s->t σ H Q->wpAny (model X.prog X.w) X.A (spliced (backTo pos (starEach es X.env))) (AP X pins σ Q) X.xe s
def PS (X:Cx) (st:Stmt) (t:TS):Prop :=
 ∀ (pins:List (Addr × Obj)) (s:Shared) (σ:St) (H:Hp) (D:Ends),Inv X pins σ H s->t D σ H->wpAny (model X.prog X.w) X.A (exec st X.env) (SP X pins D) X.xe s
def PSs (X:Cx) (st:List Stmt) (t:TS):Prop :=
 ∀ (pins:List (Addr × Obj)) (s:Shared) (σ:St) (H:Hp) (D:Ends),Inv X pins σ H s->t D σ H->wpAny (model X.prog X.w) X.A (execs st X.env) (SP X pins D) X.xe s
def thn {α:Type} {t:Sem α} {Q Q':α->Shared->Prop} {M:Model} {A:Around} {E:Value->Shared->Prop} {s:Shared} (h:wpAny M A t Q E s) (hQ:∀ a s,Q a s->Q' a s):wpAny M A t Q' E s:=wpAny_mono h hQ fun _ _ x=>x
section
variable {X:Cx}
def i9 (i:Nat):TE:=fun σ H Q=>∃ v,σ[i]?=some (some v)/\Q v H
def tC (v:V):TE:=fun _ H Q=>Q v H
def iq {i:Nat} {x:Str} {pos:Pos} (hN:X.N[i]?=some x) (hv:Vis X.env.scope x) (hd:(x == ("__debug__" : Str))=false:=by decide) (hcd:(x == ("__classdict__" : Str))=false:=by decide):PE X (.Name x pos) (i9 i):=by
 intro pins s σ H Q I h;obtain ⟨v,e,h⟩:=h;obtain ⟨m,hn,hl⟩:=I.loc;obtain ⟨u,r,l⟩:=hl i x v hN e hv;have fin:EP X pins σ Q u s:=⟨v,H,I,r,h⟩;rcases l with ⟨hk,hm⟩ | ⟨hk,c,hc,hcell⟩
 ·exact wpAny_Name (wpAny_loadName_local I.ok.kind hk hn hm fin) hd
 ·rcases hk with hk | hk
  ·exact wpAny_Name (wpAny_loadName_cell I.ok.kind hk hc hcell fin) hd
  ·exact wpAny_Name (wpAny_loadName_free I.ok.kind hk hc hcell fin hcd) hd
def pe_int {i j pos}:PE X (.Constant (.int i) j pos) (tC (.int i)):=fun _ _ _ H _ I h=>wpAny_Constant_int ⟨.int i,H,I.tok _,⟨_,rfl⟩,h⟩
def pe_bl {b j pos}:PE X (.Constant (.bool b) j pos) (tC (.bl b)):=fun _ _ _ H _ I h=>Constant_bool ⟨.bl b,H,I,rfl,h⟩
def pe_non {j pos}:PE X (.Constant .none j pos) (tC .non):=fun _ _ _ H _ I h=>Constant_none ⟨.non,H,I,rfl,h⟩
def pe_str {x j pos}:PE X (.Constant (.str x) j pos) (tC (.str x)):=fun _ _ _ H _ I h=>Calls.Constant_str ⟨.str x,H,I.tok _,⟨_,rfl⟩,h⟩
def Gl (X:Cx) (x:Str):Prop:=X.env.kindOf x=some .globalImplicit
def oB {E:Value->Shared->Prop} {pins:List (Addr × Obj)} {s:Shared} {σ:St} {H:Hp} {x:Str} {u:Value} {pos:Pos} {Q:Value->Shared->Prop} (I:Inv X pins σ H s) (hg:Gl X x) (hm:X.mg x=some u) (h:Q u s)
  (hd:(x == ("__debug__" : Str))=false:=by decide):wpAny (model X.prog X.w) X.A (eval (.Name x pos) X.env) Q E s :=
 Calls.Name_function_global I.ok.kind hg (Calls.loadGlobal_global (by rw [I.ok.glob]; exact I.mod.glob.keeps I.bk) hm h) hd
def jj {E:Value->Shared->Prop} {pins:List (Addr × Obj)} {s:Shared} {σ:St} {H:Hp} {x:Str} {u:Value} {pos:Pos} {Q:Value->Shared->Prop} (I:Inv X pins σ H s) (hg:Gl X x) (hm:X.mg x=none) (hv:bootBuiltins x=some u) (h:Q u s)
  (hn:x≠"__name__":=by decide) (hd:(x == ("__debug__" : Str))=false:=by decide):wpAny (model X.prog X.w) X.A (eval (.Name x pos) X.env) Q E s:=by
 obtain ⟨mb,h1,h2⟩:=I.mod.blt;exact Calls.Name_function_global I.ok.kind hg (Calls.loadGlobal_builtin (by rw [I.ok.glob]; exact I.mod.glob.keeps I.bk) hm (by rw [I.ok.blt]; exact h1.keeps I.bk) ((h2 x hn).trans hv) h) hd
def Ab {x:Str} {v:V} {u:Value} {pos:Pos} (hg:Gl X x) (hm:X.mg x=some u) (r:RelV v u) (hd:(x == ("__debug__" : Str))=false:=by decide):PE X (.Name x pos) (tC v) :=
 fun _ _ _ H _ I h=>oB I hg hm ⟨v,H,I,r,h⟩ hd
def Ae {x:Str} {v:V} {u:Value} {pos:Pos} (hg:Gl X x) (hm:X.mg x=none) (hv:bootBuiltins x=some u) (r:RelV v u) (hn:x≠"__name__":=by decide) (hd:(x == ("__debug__" : Str))=false:=by decide):PE X (.Name x pos) (tC v) :=
 fun _ _ _ H _ I h=>jj I hg hm hv ⟨v,H,I,r,h⟩ hn hd
variable {a b:Expr} {ta tb:TE} {pos:Pos}
def PC (X:Cx) (op:CmpOp) (a b:Expr) (t:TE):Prop :=
 ∀ (pins:List (Addr × Obj)) (s:Shared) (σ:St) (H:Hp) (Q:VK),Inv X pins σ H s->t σ H Q ->
  wpAny (model X.prog X.w) X.A (eval a X.env) (fun v s₁=>wpAny (model X.prog X.w) X.A (eval b X.env) (fun u s₂=>wpAny (model X.prog X.w) X.A (compareOp op v u) (EP X pins σ Q) X.xe s₂) X.xe s₁) X.xe s
def tB (t:TE):TT:=fun σ H Q=>t σ H fun x H1=>∃ c,x=.bl c/\Q c H1
def Dj {e:Expr} {t:TE} (h:PE X e t) (he:∀ whole,isTrue e X.env whole=(do let v <- whole; standAt e.pos; holding [v] (truthy v)):=by intro _; rfl):PT X e (tB t):=by
 intro pins s σ H Q I hw;refine isTrue_plain (thn (h pins s σ H _ I hw) fun v s1 ⟨x,H1,I1,r1,q1⟩=>?_) (he _);obtain ⟨d,rfl,q⟩:=q1;cases r1;exact wpAny_truthy_bool ⟨H1,I1,q⟩
variable {tA tB':TT} {rest:List Expr}
def C3 (t u:TT):TT:=fun σ H Q=>t σ H fun c H1=>if c=true then u σ H1 Q else Q false H1
def tOr (t u:TT):TT:=fun σ H Q=>t σ H fun c H1=>if c=true then Q true H1 else u σ H1 Q
def CY (t:TT):TT:=fun σ H Q=>t σ H fun c H1=>Q (!c) H1
def zT (ha:PT X a tA):PW X (.BoolOp .And [a] pos) tA:=by
 intro wh pins s σ H Q I h;refine isTrue_and (thn (ha pins s σ H Q I h) fun c s1 e=>?_);cases c with
 | true=>exact isTrue_and_nil e
 | false=>exact e
def Dh (ha:PT X a tA):PW X (.BoolOp .Or [a] pos) tA:=by
 intro wh pins s σ H Q I h;refine isTrue_or (thn (ha pins s σ H Q I h) fun c s1 e=>?_);cases c with
 | false=>exact isTrue_or_nil e
 | true=>exact e
def Di (ha:PT X a tA) (hb:PW X (.BoolOp .And (b :: rest) pos) tB'):PW X (.BoolOp .And (a :: b :: rest) pos) (C3 tA tB'):=by
 intro wh pins s σ H Q I h;refine isTrue_and (thn (ha pins s σ H _ I h) fun c s1 ⟨H1,I1,q1⟩=>?_);cases c with
 | true=>exact hb wh pins s1 σ H1 Q I1 q1
 | false=>exact ⟨H1,I1,q1⟩
def E8 (ha:PT X a tA) (hb:PW X (.BoolOp .Or (b :: rest) pos) tB'):PW X (.BoolOp .Or (a :: b :: rest) pos) (tOr tA tB'):=by
 intro wh pins s σ H Q I h;refine isTrue_or (thn (ha pins s σ H _ I h) fun c s1 ⟨H1,I1,q1⟩=>?_);cases c with
 | true=>exact ⟨H1,I1,q1⟩
 | false=>exact hb wh pins s1 σ H1 Q I1 q1
def Dk (ha:PT X a tA):PT X (.UnaryOp .Not a pos) (CY tA):=by
 intro pins s σ H Q I h;exact isTrue_not (ha pins s σ H (fun c H1=>Q (!c) H1) I h)
def zn (ta tb:TE):TE:=fun σ H Q=>ta σ H fun x H1=>∃ c,x=.bl c/\if c=true then tb σ H1 Q else Q (.bl false) H1
def CW (ta tb:TE):TE:=fun σ H Q=>ta σ H fun x H1=>∃ c,x=.bl c/\if c=true then Q (.bl true) H1 else tb σ H1 Q
def ze (ta:TE):TE:=fun σ H Q=>ta σ H fun x H1=>∃ c,x=.bl c/\Q (.bl (!c)) H1
def Dt {op} {t:TE} (h:PE X a t):PE X (.BoolOp op [a] pos) t:=fun pins s σ H Q I hw=>BoolOp_one (h pins s σ H Q I hw)
def Dw (ha:PE X a ta) (hb:PE X (.BoolOp .And (b :: rest) pos) tb):PE X (.BoolOp .And (a :: b :: rest) pos) (zn ta tb):=by
 intro pins s σ H Q I h;refine BoolOp_and (thn (ha pins s σ H _ I h) fun v s1 ⟨x,H1,I1,r1,q1⟩=>?_);obtain ⟨c,rfl,q1⟩:=q1;cases r1;refine wpAny_truthy_bool ?_;cases c with
 | true=>exact hb pins s1 σ H1 Q I1 q1
 | false=>exact ⟨.bl false,H1,I1,rfl,q1⟩
def Fd (ha:PE X a ta) (hb:PE X (.BoolOp .Or (b :: rest) pos) tb):PE X (.BoolOp .Or (a :: b :: rest) pos) (CW ta tb):=by
 intro pins s σ H Q I h;refine BoolOp_or (thn (ha pins s σ H _ I h) fun v s1 ⟨x,H1,I1,r1,q1⟩=>?_);obtain ⟨c,rfl,q1⟩:=q1;cases r1;refine wpAny_truthy_bool ?_;cases c with
 | false=>exact hb pins s1 σ H1 Q I1 q1
 | true=>exact ⟨.bl true,H1,I1,rfl,q1⟩
def Du (ha:PE X a ta):PE X (.UnaryOp .Not a pos) (ze ta):=by
 intro pins s σ H Q I h;refine UnaryOp_ (thn (ha pins s σ H _ I h) fun v s1 ⟨x,H1,I1,r1,q1⟩=>?_);obtain ⟨c,rfl,q1⟩:=q1;cases r1;exact not_of (wpAny_truthy_bool ⟨.bl (!c),H1,I1,rfl,q1⟩)
end
def SqL (K:PySem.W.Frag) (H:Hp) (a:Addr) (xs:List V):Prop :=
 Rd H a (.lst xs) \/
  ∃ (o:Obj) (its:Array Value) (n:Nat),K.lookup a=some o/\o.cls=.type "list"/\o.dict=none/\o.data=.seq its n/\its.size<=sizeLine/\Vals xs its.toList
def SqT (K:PySem.W.Frag) (H:Hp) (a:Addr) (xs:List V):Prop :=
 Rd H a (.tup xs) \/
  ∃ (o:Obj) (its:Array Value) (n:Nat),K.lookup a=some o/\o.cls=.type "tuple"/\o.data=.seq its n/\its.size<=sizeLine/\Vals xs its.toList
def Gk:Value->Option V
 | .none=>some .non
 | .bool b=>some (.bl b)
 | .int i _=>some (.int i)
 | .str x _=>some (.str x)
 | .bytes b _=>some (.byt b)
 | .float b _=>some (.flt b)
 | .ref a=>some (.ref a)
 | .type n=>some (.ty n)
 | _=>none
def RelV.abs {x:V} {u:Value} (r:RelV x u):Gk u=some x:=by
 cases x with
 | non=>cases r; rfl
 | bl _=>cases r; rfl
 | int _=>obtain ⟨t,rfl⟩:=r; rfl
 | str _=>obtain ⟨t,rfl⟩:=r; rfl
 | byt _=>obtain ⟨t,rfl⟩:=r; rfl
 | flt _=>obtain ⟨t,rfl⟩:=r; rfl
 | ref _=>cases r; rfl
 | ty _=>cases r; rfl
def RelV.inj {x y:V} {u:Value} (r:RelV x u) (q:RelV y u):x=y:=zat (r.abs.symm.trans q.abs)
def Vals.inj:∀ {xs ys:List V} {us:List Value},Vals xs us->Vals ys us->xs=ys
 | _,_,_,.nil,.nil=>rfl
 | _,_,_,.cons r t,.cons r' t'=>by rw [r.inj r',Vals.inj t t']
section
variable {X:Cx} {pins:List (Addr × Obj)} {σ:St} {H:Hp} {s:Shared} {a:Addr} {xs ys:List V}
def SqL.of {K:PySem.W.Frag} (h:H a=some (.lst xs)):SqL K H a xs:=.inl (.inl h)
def SqT.of {K:PySem.W.Frag} (h:H a=some (.tup xs)):SqT K H a xs:=.inl (.inl h)
def Inv.list (I:Inv X pins σ H s) (h:SqL X.K H a xs):∃ its:List Value,Vals xs its/\PlainL s.heap a its.toArray/\xs.length<=sizeLine:=by
 rcases h with h | ⟨o,its,n,hk,hc,hd,hs,hz,r⟩
 ·obtain ⟨z,its,n,r,e⟩:=h.ok I.hok;exact ⟨its,r,⟨_,n,e,rfl,rfl,rfl⟩,z⟩
 ·refine ⟨its.toList,r,⟨o,n,I.kIn a o hk,hc,hd,by simpa using hs⟩,?_⟩;have e:=r.length;simp only [zaY] at e;omega
def Inv.tuple (I:Inv X pins σ H s) (h:SqT X.K H a xs):∃ its:List Value,Vals xs its/\IsTup s.heap a its.toArray/\xs.length<=sizeLine:=by
 rcases h with h | ⟨o,its,n,hk,hc,hs,hz,r⟩
 ·obtain ⟨z,its,r,p⟩:=h.ok I.hok;exact ⟨its,r,p.tup,z⟩
 ·refine ⟨its.toList,r,⟨o,I.kIn a o hk,hc,n,by simpa using hs⟩,?_⟩;have e:=r.length;simp only [zaY] at e;omega
def Inv.list_inj (I:Inv X pins σ H s) (h:SqL X.K H a xs) (h':SqL X.K H a ys):xs=ys:=by
 obtain ⟨its,r,⟨o,n,e,_,_,d⟩,_⟩:=I.list h;obtain ⟨its',r',⟨o',n',e',_,_,d'⟩,_⟩:=I.list h';rw [e] at e'; cases e';rw [d] at d';injection d' with d1 _
 have:its=its':=by simpa using congrArg Array.toList d1
 subst this;exact r.inj r'
def Inv.tuple_inj (I:Inv X pins σ H s) (h:SqT X.K H a xs) (h':SqT X.K H a ys):xs=ys:=by
 obtain ⟨its,r,⟨o,e,_,n,d⟩,_⟩:=I.tuple h;obtain ⟨its',r',⟨o',e',_,n',d'⟩,_⟩:=I.tuple h';rw [e] at e'; cases e';rw [d] at d';injection d' with d1 _
 have:its=its':=by simpa using congrArg Array.toList d1
 subst this;exact r.inj r'
end
abbrev Cx.wish (X:Cx) (E:Value->Shared->Prop):Cx:={ X with xe:=E }
abbrev Cx.nox (X:Cx):Cx:=X.wish fun _ _=>False
def Cx.Ok.wish {X:Cx} (ok:X.Ok) (E:Value->Shared->Prop):(X.wish E).Ok :=
 ⟨ok.mod,ok.kind,ok.glob,ok.blt,ok.above,ok.inj,ok.has,ok.cab,ok.hd,ok.frames,ok.stk,ok.exf,ok.bs,ok.bsz,ok.noex,ok.exfs,ok.funs,ok.frf⟩
def Cx.Ok.unwish {X:Cx} {E:Value->Shared->Prop} (ok:(X.wish E).Ok):X.Ok :=
 ⟨ok.mod,ok.kind,ok.glob,ok.blt,ok.above,ok.inj,ok.has,ok.cab,ok.hd,ok.frames,ok.stk,ok.exf,ok.bs,ok.bsz,ok.noex,ok.exfs,ok.funs,ok.frf⟩
section
variable {X:Cx} {pins:List (Addr × Obj)} {σ:St} {H:Hp} {s:Shared} {E:Value->Shared->Prop}
def Inv.wish (I:Inv X pins σ H s) (E:Value->Shared->Prop):Inv (X.wish E) pins σ H s:=⟨I.ok.wish E,I.os,I.bare,I.base,I.loc,I.cell,I.free,I.freeC,I.pin,I.hok,I.len⟩
def Inv.unwish (I:Inv (X.wish E) pins σ H s):Inv X pins σ H s:=⟨I.ok.unwish,I.os,I.bare,I.base,I.loc,I.cell,I.free,I.freeC,I.pin,I.hok,I.len⟩
def SP.unwish {D:Ends} {f:Flow} {s':Shared} (h:SP (X.wish E) pins D f s'):SP X pins D f s':=by
 cases f with
 | next=>obtain ⟨σ',H',I,q⟩:=h; exact ⟨σ',H',I.unwish,q⟩
 | brk=>obtain ⟨σ',H',I,q⟩:=h; exact ⟨σ',H',I.unwish,q⟩
 | cont=>obtain ⟨σ',H',I,q⟩:=h; exact ⟨σ',H',I.unwish,q⟩
 | ret u=>obtain ⟨v,σ',H',I,r,q⟩:=h; exact ⟨v,σ',H',I.unwish,r,q⟩
def PSs.nox {st:List Stmt} {t:TS} (h:PSs X.nox st t):PSs X st t:=fun pins s σ H D I hw =>
 wpAny_mono (h pins s σ H D (I.wish _) hw) (fun _ _ q=>q.unwish) fun _ _ z=>False.elim z
end
section
variable {X:Cx} {st:Stmt} {rest:List Stmt} {t u:TS} {e:Expr} {te:TE} {pos:Pos}
def zg:TS:=fun D σ H=>D.nx σ H
def CU (t u:TS):TS:=fun D σ H=>t { D with nx:=u D } σ H
def pss_nil:PSs X [] zg:=fun _ _ σ H _ I h=>wpAny_execs_nil ⟨σ,H,I,h⟩
def rO (h1:PS X st t) (h2:PSs X rest u):PSs X (st :: rest) (CU t u):=by
 intro pins s σ H D I h;refine wpAny_execs_cons (thn (h1 pins s σ H { D with nx:=u D } I h) fun f s1 q=>?_);cases f with
 | next =>
  obtain ⟨σ',H',I',q⟩:=q;exact h2 pins s1 σ' H' D I' q
 | ret v=>exact q
 | brk=>exact q
 | cont=>exact q
def zW (h1:PS X st t):PSs X [st] t:=by
 intro pins s σ H D I h;refine wpAny_execs_cons (thn (h1 pins s σ H D I h) fun f s1 q=>?_);cases f with
 | next=>exact wpAny_execs_nil q
 | ret v=>exact q
 | brk=>exact q
 | cont=>exact q
def Inv.quiet {pins:List (Addr × Obj)} {σ:St} {H:Hp} {s:Shared} (I:Inv X pins σ H s):interactive X.env=false:=by simp [interactive,I.ok.kind]
def zh (te:TE):TS:=fun D σ H=>te σ H fun _ H1=>D.nx σ H1
def zX (he:PE X e te) (hs:swapsWith e none pos.line X.env=pure false:=by rfl):PS X (.Expr e pos) (zh te):=by
 intro pins s σ H D I h;exact wpAny_Expr_any (thn (he pins s σ H _ I h) fun v s1 ⟨x,H1,I1,r1,q1⟩=>⟨σ,H1,I1,q1⟩) I.quiet hs
def CV (te:TE):TS:=fun D σ H=>te σ H D.rt
def Dm (he:PE X e te):PS X (.Return (some e) pos) (CV te):=by
 intro pins s σ H D I h;exact wpAny_Return_some (thn (he pins s σ H _ I h) fun v s1 ⟨x,H1,I1,r1,q1⟩=>⟨x,σ,H1,I1,r1,q1⟩)
def C0 (c:TT) (t u:TS):TS:=fun D σ H=>c σ H fun b H1=>if b=true then t D σ H1 else u D σ H1
def E9 {c:Expr} {a b:List Stmt} {tc:TT} (hc:PT X c tc) (ha:PSs X a t) (hb:PSs X b u):PS X (.If c a b pos) (C0 tc t u):=by
 intro pins s σ H D I h;refine wpAny_If (thn (hc pins s σ H _ I h) fun d s1 ⟨H1,I1,q1⟩=>?_);cases d with
 | true=>exact ha pins s1 σ H1 D I1 q1
 | false=>exact hb pins s1 σ H1 D I1 q1
end
abbrev TG:=V->St->Hp->(St->Hp->Prop)->Prop
abbrev TGs:=List V->St->Hp->(St->Hp->Prop)->Prop
def PG (X:Cx) (target:Expr) (t:TG):Prop :=
 ∀ (pins:List (Addr × Obj)) (s:Shared) (σ:St) (H:Hp) (v:V) (u:Value) (Q:St->Hp->Prop),Inv X pins σ H s->RelV v u->t v σ H Q ->
  wpAny (model X.prog X.w) X.A (assign target X.env u) (fun _ s'=>∃ σ' H',Inv X pins σ' H' s'/\Q σ' H') X.xe s
abbrev sU:=V->V->V->Hp->(Hp->Prop)->Prop
def ET (X:Cx) (t:sU):Prop :=
 ∀ (pins:List (Addr × Obj)) (s:Shared) (σ:St) (H:Hp) (o i v:V) (ov iv u:Value) (Q:Hp->Prop),Inv X pins σ H s->RelV o ov->RelV i iv->RelV v u->t o i v H Q ->
  wpAny (model X.prog X.w) X.A (setItem ov iv u) (fun _ s'=>∃ H',Inv X pins σ H' s'/\Q H') X.xe s
section
variable {X:Cx} {pos:Pos}
def mR (i:Nat):TG:=fun v σ H Q=>Q (σ.set i (some v)) H
def zZ {i:Nat} {x:Str} (hN:X.N.Nodup) (hi:X.N[i]?=some x) (hx:Loc X.env.scope x) (hf:X.fn x=true\/X.env.scope.names.lookup x=some .local:=by first | exact .inl rfl | exact .inr rfl | assumption):PG X (.Name x pos) (mR i):=by
 intro pins s σ H v u Q I r h;exact wpAny_assign_Name (m4 I hN hi hx r (fun s' I'=>⟨_,H,I',h⟩) hf)
def D2 (to ti:TE) (t:sU):TG:=fun v σ H Q=>to σ H fun o H1=>ti σ H1 fun i H2=>t o i v H2 fun H3=>Q σ H3
def Dr {o i:Expr} {to ti:TE} {t:sU} (ho:PE X o to) (hi:PE X i ti) (hs:ET X t)
  (ha:∀ v,assign (.Subscript o i pos) X.env v=(do
   let ov <- holding [v] (eval o X.env);let iv <- holding [v,ov] (eval i X.env)
   standAt pos
   holding [v,ov,iv] (setItem ov iv v)
   release [v,ov,iv] []):=by intro _; rfl):PG X (.Subscript o i pos) (D2 to ti t):=by
 intro pins s σ H v u Q I r h;rw [ha];refine zam (wpAny_holding (thn (ho pins s σ H _ I h) fun ov s1 ⟨x,H1,I1,r1,q1⟩=>?_));refine zam (wpAny_holding (thn (hi pins s1 σ H1 _ I1 q1) fun iv s2 ⟨y,H2,I2,r2,q2⟩=>?_));refine zam (wpAny_standAt (zam (wpAny_holding (thn (hs pins s2 σ H2 x y v ov iv u _ I2 r1 r2 r q2) fun _ s3 ⟨H3,I3,q3⟩=>?_))));exact wpAny_release ⟨σ,H3,I3,q3⟩
def oW (te:TE) (g:TG):TS:=fun D σ H=>te σ H fun x H1=>g x σ H1 D.nx
def Dp {tg e:Expr} {te:TE} {g:TG} (he:PE X e te) (hg:PG X tg g) (hs:swapsWithSole [tg] e pos.line X.env=pure false:=by rfl) (hw:swappedStores [tg] e X.env=pure none:=by rfl)
  (h1:(assignEach [tg] X.env).map (·.2)=[assign tg X.env]:=by rfl):PS X (.Assign [tg] e pos) (oW te g):=by
 intro pins s σ H D I h;refine wpAny_Assign_stores (thn (he pins s σ H _ I h) fun v s1 ⟨x,H1,I1,r1,q1⟩=>?_) hs hw;rw [h1];exact thn (hg pins s1 σ H1 x v _ I1 r1 q1) fun _ s2 q=>q
def Dl {i:Nat} {x:Str} {e:Expr} {te:TE} {pos':Pos} (hN:X.N.Nodup) (hi:X.N[i]?=some x) (hx:Loc X.env.scope x) (he:PE X e te) (hs:swapsWith e (some (.Name x pos')) pos.line X.env=pure false:=by rfl) (hf:X.fn x=true\/X.env.scope.names.lookup x=some .local:=by first | exact .inl rfl | exact .inr rfl | assumption) :
  PS X (.Assign [.Name x pos'] e pos) (oW te (mR i)):=by
 intro pins s σ H D I h;refine wpAny_Assign_Name (thn (he pins s σ H _ I h) fun v s1 ⟨y,H1,I1,r1,q1⟩=>?_) hs;exact m4 I1 hN hi hx r1 (fun s2 I2=>⟨_,H1,I2,q1⟩) hf
end
structure It where
 go:Nat->Hp->Prop
 yld:Nat->Hp->V->Hp->Prop
 stop:Nat->Hp->Prop
def ij (X:Cx) (pins:List (Addr × Obj)) (H:Hp) (b:Addr):Prop :=
 H b=none/\b≠X.env.locals/\b ∉ X.fs/\(b∈X.ex\/X.s₀.heap.objs.size<=b)/\(∀ x c,X.env.cells.lookup x=some c->c≠b)/\∀ p∈X.pn++pins,p.1≠b
def Inv.fpOk {X:Cx} {pins:List (Addr × Obj)} {σ:St} {H H':Hp} {s:Shared} {b:Addr} (I:Inv X pins σ H s) (hb:s.heap.objs.size<=b) (hn:H' b=none):ij X pins H' b:=by
 refine ⟨hn,Nat.ne_of_gt (zag I.lt hb),I.nofs hb,.inr (zau I.sz hb),fun x c e z=>?_,fun p hp z=>?_⟩
 ·obtain ⟨v,q⟩:=I.cell x c e;exact absurd (zag q.lt (by rw [z]; exact hb)) (zaI _)
 ·exact absurd (zag (zal (I.pin p hp).1) (by rw [z]; exact hb)) (zaI _)
structure Turn (P:Program) (w:World) (K:PySem.W.Frag) (tg:Expr) (J:It) (fp:List Addr) (it:Addr) (tn:Nat->Heap->Prop):Prop where
 mem:it∈fp
 obj:∀ i h,tn i h->∀ b∈fp,∃ o,h.get? b=some o/\∀ v,o.data≠.cell v
 keep:∀ i h h',tn i h->(∀ b∈fp,∀ o,h.get? b=some o->h'.get? b=some o)->tn i h'
 item:∀ (X:Cx),X.prog=P->X.w=w->X.K=K->X.calm=true->∀ (i:Nat) (pins:List (Addr × Obj)) (s:Shared) (σ:St) (H:Hp) (E:Value->Shared->Prop),Inv X pins σ H s->(∀ b∈fp,ij X pins H b)->tn i s.heap->J.go i H ->
  wpAny (model P w) X.A (pyNext (.ref it)) (fun r s1=>∃ u,r=some u /\
   wpAny (model P w) X.A (letOwnedTupleGo tg (.ref it) u) (fun _ s2=>∃ x H',Inv X pins σ H' s2/\RelV x u/\J.yld i H x H'/\tn (i+1) s2.heap/\∀ b∈fp,H' b=none) E s1) E s
 done:∀ (X:Cx),X.prog=P->X.w=w->X.K=K->X.calm=true->∀ (i:Nat) (pins:List (Addr × Obj)) (s:Shared) (σ:St) (H:Hp) (E:Value->Shared->Prop),Inv X pins σ H s->(∀ b∈fp,ij X pins H b)->tn i s.heap->J.stop i H ->
  wpAny (model P w) X.A (pyNext (.ref it)) (fun r s1=>r=none/\Inv X pins σ H s1) E s
 self:∀ (A:Around) (i:Nat) (s:Shared) (Q:Value->Shared->Prop) (E:Value->Shared->Prop),tn i s.heap->Q (.ref it) s->wpAny (model P w) A (pyIter (.ref it)) Q E s
abbrev TI:=St->Hp->(It->Hp->Prop)->Prop
def PIE (X:Cx) (pins:List (Addr × Obj)) (σ:St) (tg:Expr) (R:It->Hp->Prop) (itv:Value) (s2:Shared):Prop :=
 ∃ (it:Addr) (fp:List Addr) (tn:Nat->Heap->Prop) (J:It) (H':Hp),itv=.ref it/\Inv X pins σ H' s2/\Turn X.prog X.w X.K tg J fp it tn/\tn 0 s2.heap/\(∀ b∈fp,ij X pins H' b)/\R J H'
def PI (X:Cx) (tg iter:Expr) (wi:TI):Prop :=
 ∀ (pins:List (Addr × Obj)) (s:Shared) (σ:St) (H:Hp) (R:It->Hp->Prop),Inv X pins σ H s->wi σ H R ->
  wpAny (model X.prog X.w) X.A (eval iter X.env) (fun v s1=>wpAny (model X.prog X.w) X.A (pyIter v) (PIE X pins σ tg R) X.xe s1) X.xe s
def mQ {M:Model} {A:Around} {E:Value->Shared->Prop} {s:Shared} {tg:Expr} {it:Addr} {u:Value} {o:Obj} {n:String} {vs:Array Value} {Q:Unit->Shared->Prop} (ho:s.heap.get? it=some o) (hc:o.cls=.type n) (hd:o.data=.fields vs)
  (hn:["enumerate", "zip", "dict_itemiterator", "dict_reverseitemiterator", "odict_iterator", "itertools.zip_longest", "itertools.pairwise"].contains n=false) (hQ:Q () s):wpAny M A (letOwnedTupleGo tg (.ref it) u) Q E s:=by
 unfold letOwnedTupleGo;cases tg <;> first
  | exact zaT hQ
  | (cases u <;> first
    | exact zaT hQ
    | (refine zam (wpAny_load ho ?_)
       rw [hc,hd];show wpAny M A (if (["enumerate", "zip", "dict_itemiterator", "dict_reverseitemiterator", "odict_iterator", "itertools.zip_longest", "itertools.pairwise"].contains n && vs[0]? == some (rawInt _))=true then _ else _) Q E s;rw [if_neg (by intro h; rw [hn,Bool.false_and] at h; cases h)];exact zaT hQ))
def Itl (K:PySem.W.Frag) (a:Addr):It :=
 ⟨fun i H=>∃ xs x,SqL K H a xs/\xs[i]?=some x,fun i H x H'=>H'=H/\∀ xs,SqL K H a xs->xs[i]?=some x,fun i H=>∃ xs,SqL K H a xs/\xs.length<=i⟩
def Itt (K:PySem.W.Frag) (a:Addr):It :=
 ⟨fun i H=>∃ xs x,SqT K H a xs/\xs[i]?=some x,fun i H x H'=>H'=H/\∀ xs,SqT K H a xs->xs[i]?=some x,fun i H=>∃ xs,SqT K H a xs/\xs.length<=i⟩
def Itr (lo:Int) (n:Nat):It:=⟨fun i _=>i < n,fun i H x H'=>H'=H/\x=.int (lo+i),fun i _=>n<=i⟩
def p7 {P:Program} {w:World} {K:PySem.W.Frag} {tg:Expr} (a it:Addr):Turn P w K tg (Itl K a) [it] it (fun i h=>h.IsListIter it a i) where
 mem:=by simp
 obj:=fun i h st b hb=>by
  have e:b=it:=by simpa using hb
  subst e;obtain ⟨o,e,c,d⟩:=st;exact ⟨o,e,fun v z=>by rw [d] at z; cases z⟩
 keep:=fun i h h' st k=>st.at fun o e=>k it (by simp) o e
 item:=by
  intro X hP hw hK hc i pins s σ H E I hf st hg;subst hP hw hK;obtain ⟨xs,x,hq,hx⟩:=hg;obtain ⟨its,rv,p,hz⟩:=I.list hq;obtain ⟨u,hu,ru⟩:=rv.get hx;obtain ⟨f0,f1,f2,f3,f4,f5⟩:=hf it (by simp);refine wpAny_pyNext_list_item st p.isList (x:=u) (by simpa using hu) fun h' st' sb=>?_;have I1:Inv X pins σ H { s with heap:=h' }:=I.turned (t':=s.toks) (fun b o hb e=>(sb.2 b hb).trans e) f0 f1 f3 f4 f5;obtain ⟨o,e,c,d⟩:=id st';exact ⟨u,rfl,mQ (s:={ s with heap:=h' }) e c d (by decide) ⟨x,H,I1,ru,⟨rfl,fun ys hy=>by rw [I.list_inj hy hq]; exact hx⟩,st',fun b hb=>(hf b hb).1⟩⟩
 done:=by
  intro X hP hw hK hc i pins s σ H E I hf st hg;subst hP hw hK;obtain ⟨xs,hq,hx⟩:=hg;obtain ⟨its,rv,p,hz⟩:=I.list hq;obtain ⟨f0,f1,f2,f3,f4,f5⟩:=hf it (by simp);have hl:=rv.length;exact wpAny_pyNext_list_end (I.ok.hd hc) st p.isList (by simp; omega) fun h' eb=>⟨rfl,I.turned (t':=s.toks) (fun b o hb e=>eb b o hb e) f0 f1 f3 f4 f5⟩
 self:=fun _ _ _ _ _ st h=>wpAny_pyIter_listiter st h
def oR {P:Program} {w:World} {K:PySem.W.Frag} {tg:Expr} (a it:Addr):Turn P w K tg (Itt K a) [it] it (fun i h=>h.IsTupleIter it a i) where
 mem:=by simp
 obj:=fun i h st b hb=>by
  have e:b=it:=by simpa using hb
  subst e;obtain ⟨o,e,c,d⟩:=st;exact ⟨o,e,fun v z=>by rw [d] at z; cases z⟩
 keep:=fun i h h' st k=>st.at fun o e=>k it (by simp) o e
 item:=by
  intro X hP hw hK hc i pins s σ H E I hf st hg;subst hP hw hK;obtain ⟨xs,x,hq,hx⟩:=hg;obtain ⟨its,rv,p,hz⟩:=I.tuple hq;obtain ⟨u,hu,ru⟩:=rv.get hx;obtain ⟨f0,f1,f2,f3,f4,f5⟩:=hf it (by simp);refine wpAny_pyNext_tuple_item st (show s.heap.IsTuple a its.toArray from p) (x:=u) (by simpa using hu) fun h' st' sb=>?_;have I1:Inv X pins σ H { s with heap:=h' }:=I.turned (t':=s.toks) (fun b o hb e=>(sb.2 b hb).trans e) f0 f1 f3 f4 f5;obtain ⟨o,e,c,d⟩:=id st';exact ⟨u,rfl,mQ (s:={ s with heap:=h' }) e c d (by decide) ⟨x,H,I1,ru,⟨rfl,fun ys hy=>by rw [I.tuple_inj hy hq]; exact hx⟩,st',fun b hb=>(hf b hb).1⟩⟩
 done:=by
  intro X hP hw hK hc i pins s σ H E I hf st hg;subst hP hw hK;obtain ⟨xs,hq,hx⟩:=hg;obtain ⟨its,rv,p,hz⟩:=I.tuple hq;obtain ⟨f0,f1,f2,f3,f4,f5⟩:=hf it (by simp);have hl:=rv.length;exact wpAny_pyNext_tuple_end (I.ok.hd hc) st (show s.heap.IsTuple a its.toArray from p) (by simp; omega) fun h' eb=>⟨rfl,I.turned (t':=s.toks) (fun b o hb e=>eb b o hb e) f0 f1 f3 f4 f5⟩
 self:=fun _ _ _ _ _ st h=>wpAny_pyIter_tupleiter st h
def oS {P:Program} {w:World} {K:PySem.W.Frag} {tg:Expr} (it:Addr) (lo:Int) (n:Nat):Turn P w K tg (Itr lo n) [it] it (fun i h=>IsRangeIter h it (lo+(i:Nat) * 1) ((n:Int) - (i:Nat)) 1) where
 mem:=by simp
 obj:=fun i h st b hb=>by
  have e:b=it:=by simpa using hb
  subst e;exact ⟨_,st,fun v z=>by
   have z':Data.fields _=Data.cell v:=z;cases z'⟩
 keep:=fun i h h' st k=>k it (by simp) _ st
 item:=by
  intro X hP hw hK hc i pins s σ H E I hf st hg;subst hP hw hK;obtain ⟨f0,f1,f2,f3,f4,f5⟩:=hf it (by simp);have W:=Walks.range (prog:=X.prog) (w:=X.w) (I.ok.hd hc) it lo 1 n;refine W.item i s _ _ hg st fun v h' tk hv st' kk=>?_;obtain ⟨t,rfl⟩:=hv;have I1:Inv X pins σ H { s with heap:=h',toks:=tk }:=I.turned (fun b o hb e=>kk b o (by simpa using hb) e) f0 f1 f3 f4 f5;refine ⟨_,rfl,mQ (s:={ s with heap:=h',toks:=tk }) (n:="range_iterator") st' rfl rfl (by decide) ⟨.int (lo+i),H,I1,⟨t,?_⟩,⟨rfl,rfl⟩,st',fun b hb=>(hf b hb).1⟩⟩;rw [Int.mul_one]
 done:=by
  intro X hP hw hK hc i pins s σ H E I hf st hg;subst hP hw hK;obtain ⟨f0,f1,f2,f3,f4,f5⟩:=hf it (by simp);exact wpAny_pyNext_range_end (I.ok.hd hc) st (by have:n<=i:=hg; omega) fun h' eb=>⟨rfl,I.turned (t':=s.toks) (fun b o hb e=>eb b o hb e) f0 f1 f3 f4 f5⟩
 self:=fun _ _ _ _ _ st h=>wpAny_pyIter_rangeiter st h
section
variable {X:Cx} {tg:Expr}
def m6 {pins:List (Addr × Obj)} {σ:St} {H:Hp} {s:Shared} {R:It->Hp->Prop} {E:Value->Shared->Prop} {lo hi:Int} {t u v:Tok} {tk:Nat} (I:Inv X pins σ H s) (h1:-(2 ^ 62)<=lo) (h2:lo < 2 ^ 62) (h3:-(2 ^ 62)<=hi) (h4:hi < 2 ^ 62)
  (q:R (Itr lo (hi - lo).toNat) H):wpAny (model X.prog X.w) X.A (pyIter (.ref s.heap.objs.size)) (PIE X pins σ tg R) E { s with heap:=s.heap.push { cls:=.type "range",data:=.fields #[.int lo t,.int hi u,.int 1 v] },toks:=tk }:=by
 refine wpAny_pyIter_range (IsRange.new ..) (small_one h1 h2 h3 h4) ?_;have I1:Inv X pins σ H { s with heap:=s.heap.push { cls:=.type "range",data:=.fields #[.int lo t,.int hi u,.int 1 v] },toks:=tk }:=I.kept fun b o e=>zaf _ e;refine ⟨(s.heap.push { cls:=.type "range",data:=.fields #[.int lo t,.int hi u,.int 1 v] }).objs.size,[(s.heap.push { cls:=.type "range",data:=.fields #[.int lo t,.int hi u,.int 1 v] }).objs.size],_,_,H,rfl,
  I1.kept (t':=tk) fun b o e=>zaf _ e,oS _ lo (hi - lo).toNat,?_,fun b hb=>?_,q⟩
 ·have e1:lo+((0:Nat):Int) * 1=lo:=by simp
  have e2:(((hi - lo).toNat:Nat):Int) - ((0:Nat):Int)=Builtin.Range.rangeSize lo hi 1:=by rw [rangeSize_one]; split <;> omega
  show IsRangeIter _ _ (lo+((0:Nat):Int) * 1) ((((hi - lo).toNat:Nat):Int) - ((0:Nat):Int)) 1;rw [e1,e2];exact zan _ rfl
 ·have e:b=(s.heap.push { cls:=.type "range",data:=.fields #[.int lo t,.int hi u,.int 1 v] }).objs.size:=by simpa using hb
  subst e;exact I1.fpOk (zav _) (I1.hok.fresh (zav _))
def Fo (ta:TA):TI:=fun σ H R=>ta σ H fun vs H1=>∃ j:Int,vs=[.int j]/\-(2 ^ 62)<=j/\j < 2 ^ 62/\R (Itr 0 j.toNat) H1
def Fm (ta:TA):TI:=fun σ H R=>ta σ H fun vs H1=>∃ i j:Int,vs=[.int i,.int j]/\(-(2 ^ 62)<=i/\i < 2 ^ 62/\-(2 ^ 62)<=j/\j < 2 ^ 62)/\R (Itr i (j - i).toNat) H1
def ql {a:Expr} {ta:TA} {p pos:Pos} (hg:Gl X "range") (hm:X.mg "range"=none) (ha:PA X [a] ta) (hs:starEach [a] X.env=[(false,eval a X.env)]:=by rfl):PI X tg (.Call (.Name "range" p) [a] [] pos) (Fo ta):=by
 intro pins s σ H R I h;refine Call_ (jj I hg hm boot_range (PyProof.Rows.callWith_type1 (thn (ha pos pins s σ H _ I h) fun us s1 ⟨vs,H1,I1,r1,q1⟩=>?_) hs rfl));obtain ⟨j,e,q1,q2,q⟩:=q1;subst e;cases r1 with
 | cons r rr =>
  cases rr;obtain ⟨t,rfl⟩:=r;exact call_range_1 (m6 I1 (by omega) (by omega) q1 q2 (by simpa using q))
def qk {a b:Expr} {ta:TA} {p pos:Pos} (hg:Gl X "range") (hm:X.mg "range"=none) (ha:PA X [a,b] ta) (hs:starEach [a,b] X.env=[(false,eval a X.env),(false,eval b X.env)]:=by rfl) (hs2:starEach [b] X.env=[(false,eval b X.env)]:=by rfl) :
  PI X tg (.Call (.Name "range" p) [a,b] [] pos) (Fm ta):=by
 intro pins s σ H R I h;refine Call_ (jj I hg hm boot_range (PyProof.Rows.callWith_type1 (thn (ha pos pins s σ H _ I h) fun us s1 ⟨vs,H1,I1,r1,q1⟩=>?_) (by rw [hs,hs2]) (by rw [hs2]; rfl)));obtain ⟨i,j,e,⟨q1,q2,q3,q4⟩,q⟩:=q1;subst e;cases r1 with
 | cons r rr =>
  cases rr with
  | cons r' rr =>
   cases rr;obtain ⟨t,rfl⟩:=r;obtain ⟨t',rfl⟩:=r';exact call_range_2 (m6 I1 q1 q2 q3 q4 q)
def C1 (wi:TI) (g:TG) (tb:TS):TS:=fun D σ H=>wi σ H fun J H1=>∃ W:Nat->Nat->St->Hp->Prop,(∃ m,W 0 m σ H1)/\∀ i m σ H,W i m σ H ->
 (J.stop i H/\D.nx σ H)\/(J.go i H/\∃ N:St->Hp->Prop,(∀ σ' H',N σ' H'->∃ m',m' < m/\W (i+1) m' σ' H')/\∀ x H',J.yld i H x H'->g x σ H' fun σ2 H2=>tb { D with nx:=N,ct:=N,bk:=D.nx } σ2 H2)
def jb (fp:List Addr) (h:Heap):List (Addr × Obj):=fp.filterMap fun b=>(h.get? b).map fun o=>(b,o)
def fM {fp:List Addr} {h:Heap} {b:Addr} {o:Obj} (hb:b∈fp) (e:h.get? b=some o):(b,o)∈jb fp h:=List.mem_filterMap.mpr ⟨b,hb,by rw [e]; rfl⟩
def qp {fp:List Addr} {h:Heap} {p:Addr × Obj} (hp:p∈jb fp h):p.1∈fp/\h.get? p.1=some p.2:=by
 obtain ⟨b,hb,e⟩:=List.mem_filterMap.mp hp;cases q:h.get? b with
 | none=>rw [q] at e; cases e
 | some o =>
  rw [q] at e;have e':(b,o)=p:=zat e;subst e';exact ⟨hb,q⟩
def Inv.pinned {pins:List (Addr × Obj)} {σ:St} {H:Hp} {s:Shared} {fp:List Addr} (I:Inv X pins σ H s) (hf:∀ b∈fp,ij X pins H b) (ho:∀ b∈fp,∃ o,s.heap.get? b=some o/\∀ v,o.data≠.cell v):Inv X (pins++jb fp s.heap) σ H s :=
 I.pins_of fun p hp=>(zax.mp hp).elim (fun z=>I.pin p (List.mem_append_right _ z)) fun z=>by
  obtain ⟨hb,e⟩:=qp z;obtain ⟨f0,f1,f2,_⟩:=hf p.1 hb;obtain ⟨o,e',d⟩:=ho p.1 hb;rw [e] at e'; cases e';exact ⟨e,f0,f1,f2,d⟩
def Inv.unpinned {pins pl:List (Addr × Obj)} {σ:St} {H:Hp} {s:Shared} (I:Inv X (pins++pl) σ H s):Inv X pins σ H s:=I.pins_of fun p hp=>I.pin p (List.mem_append_right _ (List.mem_append_left _ hp))
def Do {iter:Expr} {body:List Stmt} {wi:TI} {g:TG} {tb:TS} {pos:Pos} (hp:PassesOwn (model X.prog X.w) X.A X.env X.xe) (hc:X.calm=true) (hi:PI X tg iter wi) (hg:PG X tg g) (hb:PSs X body tb)
  (hs:∀ x,foldedSetIterable iter X.env x=pure x:=by intro _; rfl):PS X (.For tg iter body [] pos) (C1 wi g tb):=by
 intro pins s σ H D I h;refine wpAny_For (thn (hi pins s σ H _ I h) fun v s1 h1=>thn h1 fun itv s2 h2=>?_) hs;obtain ⟨it,fp,tn,J,H2,e,I2,T,st2,f2,W,⟨m0,w0⟩,turn⟩:=h2;subst e;have stat:∀ {H':Hp},(∀ b∈fp,H' b=none)->∀ b∈fp,ij X pins H' b:=fun hn b hb=>⟨hn b hb,(f2 b hb).2⟩;refine codeAny_forLoop_any (fun n s'=>∃ i σ' H',Inv X pins σ' H' s'/\tn i s'.heap/\(∀ b∈fp,H' b=none)/\W i n σ' H') ?_ m0 ⟨0,σ,H2,I2,st2,fun b hb=>(f2 b hb).1,w0⟩;rintro n s3 ⟨i,σ3,H3,I3,st3,fr3,w3⟩;rcases turn i n σ3 H3 w3 with ⟨stop,qn⟩ | ⟨go,N,hN,step⟩
 ·refine wpAny_passesOwn hp (thn (T.done X rfl rfl rfl hc i pins s3 σ3 H3 X.xe I3 (stat fr3) st3 stop) fun r s4 ⟨hr,I4⟩=>?_);subst hr;exact wpAny_execs_nil ⟨σ3,H3,I4,qn⟩
 ·refine wpAny_passesOwn hp (thn (T.item X rfl rfl rfl hc i pins s3 σ3 H3 X.xe I3 (stat fr3) st3 go) fun r s4 ⟨u,hr,h4⟩=>?_);subst hr;refine wpAny_passesOwn hp (thn h4 fun _ s5 ⟨x,H5,I5,r5,y5,st5,fr5⟩=>?_);have I5':=I5.pinned (stat fr5) (T.obj _ _ st5);refine wpAny_passesOwn hp (thn (hg _ s5 σ3 H5 x u _ I5' r5 (step x H5 y5)) fun _ s6 ⟨σ6,H6,I6,q6⟩=>?_);refine wpAny_passesOwn hp (thn (hb _ s6 σ6 H6 _ I6 q6) fun f s7 q7=>?_);have again:∀ {σ7:St} {H7:Hp},Inv X (pins++jb fp s5.heap) σ7 H7 s7->N σ7 H7->∃ m,m < n/\∃ i σ' H',Inv X pins σ' H' s7/\tn i s7.heap/\(∀ b∈fp,H' b=none)/\W i m σ' H':=fun {σ7 H7} I7 n7=>by
   obtain ⟨m',hm,w7⟩:=hN σ7 H7 n7;refine ⟨m',hm,i+1,σ7,H7,I7.unpinned,T.keep _ _ _ st5 fun b hb o e=>(I7.pin (b,o) (List.mem_append_right _ (List.mem_append_right _ (fM hb e)))).1,fun b hb=>?_,w7⟩;obtain ⟨o,e,d⟩:=T.obj _ _ st5 b hb;exact (I7.pin (b,o) (List.mem_append_right _ (List.mem_append_right _ (fM hb e)))).2.1
  cases f with
  | next=>obtain ⟨σ7,H7,I7,n7⟩:=q7; exact again I7 n7
  | cont=>obtain ⟨σ7,H7,I7,n7⟩:=q7; exact again I7 n7
  | brk=>obtain ⟨σ7,H7,I7,q7⟩:=q7; exact ⟨σ7,H7,I7.unpinned,q7⟩
  | ret v=>obtain ⟨x7,σ7,H7,I7,r7,q7⟩:=q7; exact ⟨x7,σ7,H7,I7.unpinned,r7,q7⟩
end
abbrev R2:=V->V->Hp->VK->Prop
def OpR (X:Cx) (f:Value->Value->Sem Value) (r:R2):Prop :=
 ∀ (pins:List (Addr × Obj)) (s:Shared) (σ:St) (H:Hp) (x y:V) (v u:Value) (Q:VK),Inv X pins σ H s->RelV x v->RelV y u->r x y H Q ->
  wpAny (model X.prog X.w) X.A (f v u) (EP X pins σ Q) X.xe s
def UnR (X:Cx) (f:Value->Sem Value) (r:V->Hp->VK->Prop):Prop :=
 ∀ (pins:List (Addr × Obj)) (s:Shared) (σ:St) (H:Hp) (x:V) (v:Value) (Q:VK),Inv X pins σ H s->RelV x v->r x H Q ->
  wpAny (model X.prog X.w) X.A (f v) (EP X pins σ Q) X.xe s
def CallR (X:Cx) (f:Value) (r:List V->Hp->VK->Prop):Prop :=
 ∀ (pins:List (Addr × Obj)) (s:Shared) (σ:St) (H:Hp) (xs:List V) (us:List Value) (Q:VK),Inv X pins σ H s->Vals xs us->r xs H Q ->
  wpAny (model X.prog X.w) X.A (call f us) (EP X pins σ Q) X.xe s
def Gn (X:Cx) (r:V->Hp->(Bool->Hp->Prop)->Prop):Prop :=
 ∀ (pins:List (Addr × Obj)) (s:Shared) (σ:St) (H:Hp) (x:V) (v:Value) (Q:Bool->Hp->Prop),Inv X pins σ H s->RelV x v->r x H Q ->
  wpAny (model X.prog X.w) X.A (truthy v) (TP X pins σ Q) X.xe s
def tOp (r:R2) (ta tb:TE):TE:=fun σ H Q=>ta σ H fun x H1=>tb σ H1 fun y H2=>r x y H2 Q
def tUn (r:V->Hp->VK->Prop) (ta:TE):TE:=fun σ H Q=>ta σ H fun x H1=>r x H1 Q
def rI (C:Int->Int->Prop) (g:Int->Int->V):R2:=fun x y H Q=>∃ i j,x=.int i/\y=.int j/\C i j/\Q (g i j) H
def rI0 (g:Int->Int->V):R2:=fun x y H Q=>∃ i j,x=.int i/\y=.int j/\Q (g i j) H
def rU (g:Int->V):V->Hp->VK->Prop:=fun x H Q=>∃ i,x=.int i/\Q (g i) H
section
variable {X:Cx} {a b c:Expr} {ta tb tc:TE} {pos:Pos}
def sR (ha:PE X a ta) (hb:PE X b tb) {pins:List (Addr × Obj)} {s:Shared} {σ:St} {H:Hp} {R:V->V->Hp->Prop} (I:Inv X pins σ H s)
  (h:ta σ H fun x H1=>tb σ H1 fun y H2=>R x y H2) {Q:Value->Shared->Prop} {f:Value->Value->Sem Value}
  (hf:∀ v u s2 x y H2,Inv X pins σ H2 s2->RelV x v->RelV y u->R x y H2->wpAny (model X.prog X.w) X.A (f v u) Q X.xe s2) :
  wpAny (model X.prog X.w) X.A (eval a X.env) (fun v s₁=>wpAny (model X.prog X.w) X.A (eval b X.env) (fun u s₂=>wpAny (model X.prog X.w) X.A (f v u) Q X.xe s₂) X.xe s₁) X.xe s:=by
 refine thn (ha pins s σ H _ I h) fun v s1 ⟨x,H1,I1,r1,q1⟩=>?_;refine thn (hb pins s1 σ H1 _ I1 q1) fun u s2 ⟨y,H2,I2,r2,q2⟩=>?_;exact hf v u s2 x y H2 I2 r1 r2 q2
def Fe {op:Operator} {r:R2} (ho:OpR X (binaryOp op) r) (ha:PE X a ta) (hb:PE X b tb):PE X (.BinOp a op b pos) (tOp r ta tb):=by
 intro pins s σ H Q I h;exact wpAny_BinOp (sR ha hb I h fun v u s2 x y H2 I2 rx ry q=>ho pins s2 σ H2 x y v u Q I2 rx ry q)
def Fc {op:UnaryOp} {r:V->Hp->VK->Prop} (ho:UnR X (unaryOp op) r) (ha:PE X a ta):PE X (.UnaryOp op a pos) (tUn r ta):=by
 intro pins s σ H Q I h;exact UnaryOp_ (thn (ha pins s σ H _ I h) fun v s1 ⟨x,H1,I1,r1,q1⟩=>ho pins s1 σ H1 x v Q I1 r1 q1)
def opI {f:Value->Value->Sem Value} {C:Int->Int->Prop} {g:Int->Int->Int}
  (rule:∀ (i j:Int) (t u:Tok) (s:Shared) (Q:Value->Shared->Prop) (E:Value->Shared->Prop),C i j->Q (.int (g i j) s.toks) { s with toks:=s.toks+1 }->wpAny (model X.prog X.w) X.A (f (.int i t) (.int j u)) Q E s) :
  OpR X f (rI C fun i j=>.int (g i j)):=by
 intro pins s σ H x y v u Q I rx ry h;obtain ⟨i,j,rfl,rfl,hc,q⟩:=h;obtain ⟨t,rfl⟩:=rx;obtain ⟨t',rfl⟩:=ry;exact rule i j t t' s _ _ hc ⟨.int (g i j),H,I.tok _,⟨_,rfl⟩,q⟩
def Dx {f:Value->Value->Sem Value} {g:Int->Int->Int}
  (rule:∀ (i j:Int) (t u:Tok) (s:Shared) (Q:Value->Shared->Prop) (E:Value->Shared->Prop),Q (.int (g i j) s.toks) { s with toks:=s.toks+1 }->wpAny (model X.prog X.w) X.A (f (.int i t) (.int j u)) Q E s) :
  OpR X f (rI0 fun i j=>.int (g i j)):=by
 intro pins s σ H x y v u Q I rx ry h;obtain ⟨i,j,rfl,rfl,q⟩:=h;obtain ⟨t,rfl⟩:=rx;obtain ⟨t',rfl⟩:=ry;exact rule i j t t' s _ _ ⟨.int (g i j),H,I.tok _,⟨_,rfl⟩,q⟩
def pf {f:Value->Value->Sem Value} {g:Int->Int->Bool}
  (rule:∀ (i j:Int) (t u:Tok) (s:Shared) (Q:Value->Shared->Prop) (E:Value->Shared->Prop),Q (.bool (g i j)) s->wpAny (model X.prog X.w) X.A (f (.int i t) (.int j u)) Q E s) :
  OpR X f (rI0 fun i j=>.bl (g i j)):=by
 intro pins s σ H x y v u Q I rx ry h;obtain ⟨i,j,rfl,rfl,q⟩:=h;obtain ⟨t,rfl⟩:=rx;obtain ⟨t',rfl⟩:=ry;exact rule i j t t' s _ _ ⟨.bl (g i j),H,I,rfl,q⟩
def iX (i j:Int):Prop:=0 < j/\j < 1073741824
def ik (i j:Int):Prop:=0<=j/\j<=1000000/\i.natAbs < 2 ^ 64
def CMul (i j:Int):Prop:=(-(2 ^ 64) < i/\i < 2 ^ 64)\/(-(2 ^ 64) < j/\j < 2 ^ 64)
def CMul.ok {i j:Int} (h:CMul i j):IntMulOk i j:=by
 rcases h with ⟨h1,h2⟩ | ⟨h1,h2⟩
 ·exact .of_left (intBits_le_64 h1 h2)
 ·exact .of_right (intBits_le_64 h1 h2)
def op_add:OpR X (binaryOp .Add) (rI0 fun i j=>.int (i+j)):=Dx fun _ _ _ _ _ _ _ q=>add_int q
def op_sub:OpR X (binaryOp .Sub) (rI0 fun i j=>.int (i - j)):=Dx fun _ _ _ _ _ _ _ q=>sub_int q
def op_mul:OpR X (binaryOp .Mult) (rI CMul fun i j=>.int (i * j)):=opI fun _ _ _ _ _ _ _ hc q=>mul_int q hc.ok
def op_fdiv:OpR X (binaryOp .FloorDiv) (rI iX fun i j=>.int (i / j)):=opI fun i j _ _ _ _ _ hc q=>by
 have h1:(0:Int) < j:=hc.1;have h2:j < 1073741824:=hc.2;exact floordiv_int (by omega) (by rw [Int.fdiv_eq_ediv_of_nonneg i (by omega)]; exact q) (.inl (PyProof.noPylong_small (by omega)))
def op_mod:OpR X (binaryOp .Mod) (rI (fun _ j=>0 < j) fun i j=>.int (i % j)):=opI fun i j _ _ _ _ _ hc q=>by
 have h1:(0:Int) < j:=hc;exact mod_int' (by omega) (by rw [Int.fmod_eq_emod_of_nonneg i (by omega)]; exact q)
def op_pow:OpR X (binaryOp .Pow) (rI ik fun i j=>.int (i ^ j.toNat)):=opI fun _ _ _ _ _ _ _ hc q=>pow_int_small hc.1 hc.2.1 hc.2.2 q
def unI {f:Value->Sem Value} {g:Int->Int}
  (rule:∀ (i:Int) (t:Tok) (s:Shared) (Q:Value->Shared->Prop) (E:Value->Shared->Prop),Q (.int (g i) s.toks) { s with toks:=s.toks+1 }->wpAny (model X.prog X.w) X.A (f (.int i t)) Q E s) :
  UnR X f (rU fun i=>.int (g i)):=by
 intro pins s σ H x v Q I rx h;obtain ⟨i,rfl,q⟩:=h;obtain ⟨t,rfl⟩:=rx;exact rule i t s _ _ ⟨.int (g i),H,I.tok _,⟨_,rfl⟩,q⟩
def un_neg:UnR X (unaryOp .USub) (rU fun i=>.int (-i)):=unI fun _ _ _ _ _ q=>neg_int q
def Ej {pins:List (Addr × Obj)} {σ:St} {H:Hp} {s:Shared} {Q:VK} {k k':Bool} (I:Inv X pins σ H s) (q:Q (.bl k) H) (e:k=k'):EP X pins σ Q (.bool k') s:=by
 subst e;exact ⟨.bl k,H,I,rfl,q⟩
def op_lt:OpR X (compareOp .Lt) (rI0 fun i j=>.bl (decide (i < j))):=pf fun _ _ _ _ _ _ _ q=>lt_int q
def op_le:OpR X (compareOp .LtE) (rI0 fun i j=>.bl (decide (i<=j))):=pf fun _ _ _ _ _ _ _ q=>le_int q
def op_gt:OpR X (compareOp .Gt) (rI0 fun i j=>.bl (decide (j < i))):=pf fun _ _ _ _ _ _ _ q=>gt_int q
def op_ge:OpR X (compareOp .GtE) (rI0 fun i j=>.bl (decide (j<=i))):=pf fun _ _ _ _ _ _ _ q=>ge_int q
def op_isN:OpR X (compareOp .Is) (fun x y H Q=>y=.non/\Q (.bl (decide (x=.non))) H):=by
 intro pins s σ H x y v u Q I rx ry h;obtain ⟨rfl,q⟩:=h;cases ry;refine is_none_gen (Ej I q ?_);cases x <;> first
  | (cases rx; rfl)
  | (obtain ⟨t,rfl⟩:=rx; rfl)
def bA (b:Expr) {op:CmpOp} (h:op≠.In:=by decide) (h2:op≠.NotIn:=by decide):behindInMarks op b=false:=by
 have e1:(op == CmpOp.In)=false:=by cases op <;> first | rfl | exact absurd rfl h
 have e2:(op == CmpOp.NotIn)=false:=by cases op <;> first | rfl | exact absurd rfl h2
 cases b <;> simp [behindInMarks,e1,e2]
def Ac {op:CmpOp} {r:R2} (ho:OpR X (compareOp op) r) (ha:PE X a ta) (hb:PE X b tb) (hm:behindInMarks op b=false):PE X (.Compare a [op] [b] pos) (tOp r ta tb):=by
 intro pins s σ H Q I h;exact wpAny_Compare1 (sR ha hb I h fun v u s2 x y H2 I2 rx ry q=>ho pins s2 σ H2 x y v u Q I2 rx ry q) hm
def EW (t:TE):TT:=fun σ H Q=>t σ H fun x H'=>∃ k,x=.bl k/\Q k H'
def zV {op:CmpOp} {r:R2} (ho:OpR X (compareOp op) r) (ha:PE X a ta) (hb:PE X b tb) (hm:behindInMarks op b=false):PT X (.Compare a [op] [b] pos) (EW (tOp r ta tb)):=by
 intro pins s σ H Q I h;refine wpAny_isTrue_Compare1 (thn (ha pins s σ H _ I h) fun v s1 ⟨x,H1,I1,r1,q1⟩=>thn (hb pins s1 σ H1 _ I1 q1) fun u s2 ⟨y,H2,I2,r2,q2⟩ =>
  thn (ho pins s2 σ H2 x y v u _ I2 r1 r2 q2) fun c s3 ⟨z,H3,I3,r3,k,e,q3⟩=>?_) hm
 subst e;cases r3;exact wpAny_truthy_bool ⟨H3,I3,q3⟩
def p9 (r r':R2) (ta tb tc:TE):TE:=fun σ H Q=>ta σ H fun x H1=>tb σ H1 fun y H2=>r x y H2 fun z H3=>∃ k,z=.bl k /\
 (if k=true then tc σ H3 fun w' H4=>r' y w' H4 Q else Q (.bl false) H3)
def rS {op op':CmpOp} {r r':R2} (ho:OpR X (compareOp op) r) (ho':OpR X (compareOp op') r') (ha:PE X a ta) (hb:PE X b tb) (hc:PE X c tc)
  (hm:lastMarks [op,op'] [b,c]=false:=by with_unfolding_all rfl):PE X (.Compare a [op,op'] [b,c] pos) (p9 r r' ta tb tc):=by
 intro pins s σ H Q I h;refine Compare_chain (thn (ha pins s σ H _ I h) fun v s1 ⟨x,H1,I1,r1,q1⟩=>chain_link (thn (hb pins s1 σ H1 _ I1 q1) fun u s2 ⟨y,H2,I2,r2,q2⟩ =>
  thn (ho pins s2 σ H2 x y v u _ I2 r1 r2 q2) fun d s3 ⟨z,H3,I3,r3,k,e,q3⟩=>?_)) hm
 subst e;cases r3;refine wpAny_truthy_bool ?_;cases k with
 | false=>exact ite_ff ⟨.bl false,H3,I3,rfl,q3⟩
 | true=>exact ite_tt (chain_last (thn (hc pins s3 σ H3 _ I3 q3) fun w' s4 ⟨z',H4,I4,r4,q4⟩=>ho' pins s4 σ H4 y z' u w' Q I4 r2 r4 q4))
def Gm (K:PySem.W.Frag) (x:V) (H:Hp) (k:Bool):Prop :=
 match x with
 | .non=>k=false
 | .bl b=>k=b
 | .int i=>k=(i != 0)
 | .str y=>y.length<=sizeLine/\k=((y.length:Int) != 0)
 | .byt y=>y.size<=sizeLine/\k=((y.size:Int) != 0)
 | .ref p=>(∃ xs,SqL K H p xs/\k=!xs.isEmpty)\/(∃ xs,SqT K H p xs/\k=!xs.isEmpty)\/∃ kvs,H p=some (.dK kvs)/\k=!kvs.isEmpty
 | _=>False
def iu:(sizeLine:Nat) < 2 ^ 63:=by rw [sizeLine_eq]; decide
def pd:OpR X (binaryOp .Add) (fun x y H Q=>∃ i j,x=.str i/\y=.str j/\i.length+j.length<=sizeLine/\Q (.str (i++j)) H):=by
 intro pins s σ H x y v u Q I rx ry h;obtain ⟨i,j,rfl,rfl,hz,q⟩:=h;obtain ⟨t,rfl⟩:=rx;obtain ⟨t',rfl⟩:=ry;exact add_str (fun t' tk=>⟨.str (i++j),H,I.tok _,⟨_,rfl⟩,q⟩) hz
def da {x:V} {us:List Value} (r:Vals [x] us):∃ u,us=[u]/\RelV x u:=by
 cases r with
 | cons r1 r2=>cases r2; exact ⟨_,rfl,r1⟩
def zd {x y:V} {us:List Value} (r:Vals [x,y] us):∃ u w',us=[u,w']/\RelV x u/\RelV y w':=by
 cases r with
 | cons r1 r2 =>
  cases r2 with
  | cons r3 r4=>cases r4; exact ⟨_,_,rfl,r1,r3⟩
def call_abs:CallR X (.builtin "abs") (fun xs H Q=>∃ i,xs=[.int i]/\Q (.int (if i < 0 then -i else i)) H):=by
 intro pins s σ H xs us Q I r h;obtain ⟨i,rfl,q⟩:=h;obtain ⟨u,rfl,t,rfl⟩:=da r;exact call_abs_int fun u tk=>⟨.int (if i < 0 then -i else i),H,I.tok _,⟨_,rfl⟩,q⟩
def rf (hc:X.calm=true):CallR X (.builtin "min") (fun xs H Q=>∃ i j,xs=[.int i,.int j]/\Q (.int (if j < i then j else i)) H):=by
 intro pins s σ H xs us Q I r h;obtain ⟨i,j,rfl,q⟩:=h;obtain ⟨u,w',rfl,⟨t,rfl⟩,⟨t',rfl⟩⟩:=zd r;refine min_two_ints (I.ok.hd hc) fun h' tk k=>⟨_,H,I.kept k,?_,q⟩;by_cases hj:j < i
 ·rw [if_pos hj,if_pos hj]; exact ⟨_,rfl⟩
 ·rw [if_neg hj,if_neg hj]; exact ⟨_,rfl⟩
def EU (K:PySem.W.Frag) (x:V) (H:Hp) (n:Nat):Prop :=
 match x with
 | .str y=>y.length<=sizeLine/\n=y.length
 | .byt y=>y.size<=sizeLine/\n=y.size
 | .ref p=>(∃ xs,SqL K H p xs/\n=xs.length)\/∃ xs,SqT K H p xs/\n=xs.length
 | _=>False
def sN:CallR X (.builtin "len") (fun xs H Q=>∃ x n,xs=[x]/\EU X.K x H n/\Q (.int n) H):=by
 intro pins s σ H xs us Q I r h;obtain ⟨x,n,rfl,e,q⟩:=h;obtain ⟨u,rfl,rx⟩:=da r;have hl:=iu;have hs:sizeLine=16777216:=sizeLine_eq;cases x with
 | str y =>
  obtain ⟨t,rfl⟩:=rx;obtain ⟨hy,e'⟩:y.length<=sizeLine/\n=y.length:=e;subst e';exact len_str (by omega) ⟨.int _,H,I.tok _,⟨_,rfl⟩,q⟩
 | byt y =>
  obtain ⟨t,rfl⟩:=rx;obtain ⟨hy,e'⟩:y.size<=sizeLine/\n=y.size:=e;subst e';exact PySem.W.len_bytes (by omega) ⟨.int _,H,I.tok _,⟨_,rfl⟩,q⟩
 | ref p =>
  cases rx;have e':(∃ xs,SqL X.K H p xs/\n=xs.length)\/∃ xs,SqT X.K H p xs/\n=xs.length:=e;rcases e' with ⟨xs,hx,e'⟩ | ⟨xs,hx,e'⟩
  ·subst e';obtain ⟨its,r',pl,hz⟩:=I.list hx;have hlen:=r'.length;exact Calls.call_len_list pl.isList (by simp only [zai]; omega) ⟨.int xs.length,H,I.tok _,⟨_,by simp only [zai]; rw [hlen]⟩,q⟩
  ·subst e';obtain ⟨its,r',pl,hz⟩:=I.tuple hx;have hlen:=r'.length;exact len_tuple pl (by simp only [zai]; omega) ⟨.int xs.length,H,I.tok _,⟨_,by simp only [zai]; rw [hlen]⟩,q⟩
 | _=>exact (show False from e).elim
end
structure ObjM (h:Heap) (x dx C:Addr) (mA:Str->Option Value):Prop where
 obj:h.get? x=some (PySem.W.instObj C dx)
 ns:h.Ns1 dx mA
 ne:dx≠x
def qv {h:Heap} {dx:Addr} {mA:Str->Option Value} (n:h.Ns1 dx mA):∃ od,h.get? dx=some od/\∀ name,PySem.W.lookIn name od=some (mA name):=by
 obtain ⟨o,es,ep,ho,hd,hk,_,hm⟩:=n;refine ⟨o,ho,fun name=>?_⟩;have e:=hm name;unfold nsFind findBy at e;rw [<- Array.find?_toList] at e;unfold PySem.W.lookIn;rw [hd]
 dsimp only
 split
 ·rename_i y q;rw [q] at e;exact congrArg some e
 ·rename_i q;rw [q] at e;have a:es.toList.any (·.refKey)=false:=by
   rw [List.any_eq_false];intro y hy;obtain ⟨z,t,hkey⟩:=hk y (Array.mem_toList_iff.mp hy);simp [DictEntry.refKey,hkey]
  have a':¬ es.toList.any (·.refKey)=true:=by rw [a]; exact Bool.false_ne_true
  rw [if_neg a'];exact congrArg some e
def ObjM.look {h:Heap} {x dx C:Addr} {mA:Str->Option Value} (I:ObjM h x dx C mA):∃ od,PySem.W.InstAt h x (PySem.W.instObj C dx) C (some od)/\∀ name,PySem.W.lookIn name od=some (mA name) :=
 let ⟨od,ho,hl⟩:=qv I.ns
 ⟨od,⟨I.obj,rfl,rfl,ho⟩,hl⟩
section
variable {prog:Program} {w:World} {A:Around} {E:Value->Shared->Prop} {s:Shared} {K:PySem.W.Frag} {x dx C f:Addr} {mA:Str->Option Value} {name:Str} {v:Value}
end
section
variable {P:Program} {w:World} {H H':Hp} {h h':Heap} {a C dx:Addr} {fs fs':List (Str × V)}
def An (hok:HOk P w H h) (e:H a=some (.ins C dx fs)):∃ mA,ObjM h a dx C mA/\(∀ f,sV (fs.lookup f) (mA f))/\PySem.Within mA (fs.map (·.1))/\fs.length<=1000/\H dx=some (.own a):=by
 obtain ⟨d,z,ne,ob,mA,n,r,q⟩:=(show ObjOk P w H h a (.ins C dx fs) from hok a _ e);exact ⟨mA,⟨ob,n,ne⟩,r,q,z,d⟩
end
structure Cls (K:PySem.W.Frag) (C:Addr):Prop where
 pg:PySem.W.plainGet K C Str.empty=true
 hd:PySem.W.hasDictIn K C=true
 po:PySem.W.plainOver K C=true
 sa:PySem.W.findIn K (.ref C) "__setattr__"=some (some (.builtin "object.__setattr__"))
def Cls.get {K:PySem.W.Frag} {C:Addr} (c:Cls K C) (f:Str):PySem.W.plainGet K C f=true:=c.pg
section
variable {X:Cx} {pins:List (Addr × Obj)} {σ:St} {H:Hp} {s:Shared} {a C dx:Addr} {fs:List (Str × V)} {f:Str} {v:V} {A:Around} {E:Value->Shared->Prop}
end
section
variable {X:Cx} {o e value:Expr} {f:Str} {pos pos' tpos:Pos} {ta tv:TE}
end
section
variable {X:Cx} {pins:List (Addr × Obj)} {σ:St} {H:Hp} {s:Shared} {A:Around} {E:Value->Shared->Prop} {Q:Value->Shared->Prop} {c:Value} {b:Bool}
inductive TyOf (K:PySem.W.Frag) (H:Hp):V->Value->Prop where
 | non:TyOf K H .non (.type "NoneType")
 | bl (x:Bool):TyOf K H (.bl x) (.type "bool")
 | int (i:Int):TyOf K H (.int i) (.type "int")
 | str (x:Str):TyOf K H (.str x) (.type "str")
 | flt (x:UInt64):TyOf K H (.flt x) (.type "float")
 | lst {a:Addr} {xs:List V} (e:H a=some (.lst xs)):TyOf K H (.ref a) (.type "list")
 | frz {a:Addr} {o:Obj} {xs:List V} (e:H a=some (.frz o (.lst xs))):TyOf K H (.ref a) (.type "list")
 | tup {a:Addr} {xs:List V} (e:H a=some (.tup xs)):TyOf K H (.ref a) (.type "tuple")
 | dK {a:Addr} {kvs:List (Key × V)} (e:H a=some (.dK kvs)):TyOf K H (.ref a) (.type "dict")
 | dT {a:Addr} {kvs:List (List Key × V)} (e:H a=some (.dT kvs)):TyOf K H (.ref a) (.type "dict")
 | ins {a C dx:Addr} {fs:List (Str × V)} (e:H a=some (.ins C dx fs)) (cl:Cls K C) (ha:PySem.W.findIn K (.ref C) "__class__"=some (some (.builtin "object.__class__")))
   (hn:PySem.W.specialIn K (.builtin "object.__class__") "__get__"=some (some (.builtin "getset_descriptor.__get__"))) (htk:PySem.W.takesIn K (.builtin "object.__class__")=some true)
   (hm:PySem.W.mroIn K C (.type "object")=some true):TyOf K H (.ref a) (.ref C)
def qF {x:V} {u t:Value} (I:Inv X pins σ H s) (rx:RelV x u) (ty:TyOf X.K H x t) (e:PySem.W.kitOne X.K t c=some b) (h:∀ tk,Q (.bool b) { s with toks:=tk }) :
  wpAny (model X.prog X.w) A (call (.builtin "isinstance") [u,c]) Q E s:=by
 cases ty with
 | non=>cases (show u=Value.none from rx); exact PySem.W.kia_one PySem.W.kitx_none I.kIn True.intro e (fun z=>nomatch z) h
 | bl y=>cases (show u=Value.bool y from rx); exact PySem.W.kia_one PySem.W.kitx_bool I.kIn True.intro e (fun z=>nomatch z) h
 | int i=>obtain ⟨t,q⟩:=(show ∃ t,u=Value.int i t from rx); cases q; exact PySem.W.kia_one PySem.W.kitx_int I.kIn True.intro e (fun z=>nomatch z) h
 | str y=>obtain ⟨t,q⟩:=(show ∃ t,u=Value.str y t from rx); cases q; exact PySem.W.kia_one PySem.W.kitx_str I.kIn True.intro e (fun z=>nomatch z) h
 | flt y=>obtain ⟨t,q⟩:=(show ∃ t,u=Value.float y t from rx); cases q; exact PySem.W.kia_one PySem.W.kitx_float I.kIn True.intro e (fun z=>nomatch z) h
 | @lst a xs ea =>
  cases (show u=Value.ref a from rx);obtain ⟨_,_,n,_,h1⟩:=(show ObjOk X.prog X.w H s.heap a (.lst xs) from I.hok a _ ea);exact PySem.W.kia_one PySem.W.kitx_list I.kIn ⟨_,h1,rfl⟩ e (fun z=>nomatch z) h
 | @frz a ob xs ea =>
  cases (show u=Value.ref a from rx);obtain ⟨_,_,_,n,_,h1⟩:=(show ObjOk X.prog X.w H s.heap a (.frz ob (.lst xs)) from I.hok a _ ea);exact PySem.W.kia_one PySem.W.kitx_list I.kIn ⟨_,h1,rfl⟩ e (fun z=>nomatch z) h
 | @tup a xs ea =>
  cases (show u=Value.ref a from rx);obtain ⟨_,_,_,p⟩:=(show ObjOk X.prog X.w H s.heap a (.tup xs) from I.hok a _ ea);obtain ⟨o,h1,h2,_⟩:=p;exact PySem.W.kia_one PySem.W.kitx_tuple I.kIn ⟨o,h1,h2⟩ e (fun z=>nomatch z) h
 | @dK a kvs ea =>
  cases (show u=Value.ref a from rx);obtain ⟨_,_,vs,_,p⟩:=(show ObjOk X.prog X.w H s.heap a (.dK kvs) from I.hok a _ ea);obtain ⟨o,es,ep,h1,h2,_⟩:=p;exact PySem.W.kia_one PySem.W.kitx_dict I.kIn ⟨o,h1,h2.1⟩ e (fun z=>nomatch z) h
 | @dT a kvs ea =>
  cases (show u=Value.ref a from rx);obtain ⟨_,_,xs,_,o,es,ep,h1,h2,_⟩:=(show ObjOk X.prog X.w H s.heap a (.dT kvs) from I.hok a _ ea);exact PySem.W.kia_one PySem.W.kitx_dict I.kIn ⟨o,h1,h2.1⟩ e (fun z=>nomatch z) h
 | @ins a C dx fs ea cl ha hn htk hm =>
  cases (show u=Value.ref a from rx);obtain ⟨mA,O,_⟩:=An I.hok ea;obtain ⟨od,J,_⟩:=O.look;exact PySem.W.kia_one (PySem.W.kitx_own (cl.get _) cl.hd ha hn htk hm) I.kIn J e (fun z=>nomatch z) h
end
structure Room (k:Nat) (A:Around):Prop where
 hd:A.handled=none
 dp:A.depth+3 * k+5 < recursionLimit
 un:A.units+16 * k+200 < cLine
 gd:A.guards=some []
def Room.mono {j k:Nat} {A:Around} (r:Room k A) (h:j<=k):Room j A:=⟨r.hd,by have:=r.dp; omega,by have:=r.un; omega,r.gd⟩
def Room.deeper {k:Nat} {A:Around} (r:Room (k+1) A) (env:Env):Room k (A.deeper env) :=
 ⟨r.hd,by have:=r.dp; show A.depth+1+3 * k+5 < _; omega,by have:=r.un; show A.units+3+16 * k+200 < _; omega,r.gd⟩
def Room.depth {k:Nat} {A:Around} (r:Room k A):A.depth < recursionLimit:=by have:=r.dp; omega
def Room.units {k:Nat} {A:Around} (r:Room k A):A.units+64 < cLine:=by have:=r.un; omega
def oU:TA:=fun _ H Q=>Q [] H
def kG (ta:TE) (tr:TA):TA:=fun σ H Q=>ta σ H fun x H1=>tr σ H1 fun xs H2=>Q (x :: xs) H2
section
variable {X:Cx} {e:Expr} {es:List Expr} {te:TE} {t:TA} {pos:Pos}
def pa_nil:PA X [] oU:=fun _ _ _ _ H Q I h=>Calls.spliced_nil ⟨[],H,I,.nil,h⟩
def eo (ha:PE X e te) (hr:PA X es t) (hs:starEach (e :: es) X.env=(false,eval e X.env) :: starEach es X.env:=by rfl):PA X (e :: es) (kG te t):=by
 intro pos pins s σ H Q I h;rw [hs];show wpAny _ _ (spliced ((false,eval e X.env) :: backTo pos (starEach es X.env))) _ _ s;refine Calls.spliced_cons (thn (ha pins s σ H _ I h) fun u s1 ⟨x,H1,I1,r1,q1⟩=>?_);exact thn (hr pos pins s1 σ H1 _ I1 q1) fun us s2 ⟨xs,H2,I2,r2,q2⟩=>⟨x :: xs,H2,I2,.cons r1 r2,q2⟩
def CT (t:TA):TE:=fun σ H Q=>t σ H fun xs H1=>xs.length<=sizeLine/\∀ p,H1 p=none->Q (.ref p) (upd H1 p (.tup xs))
def CZ (t:TA):TE:=fun σ H Q=>t σ H fun xs H1=>xs.length<=sizeLine/\∀ p,H1 p=none->Q (.ref p) (upd H1 p (.lst xs))
def Ds {x1} (h:PA X es t):PE X (.Tuple es x1 pos) (CT t):=by
 intro pins s σ H Q I hq;refine wpAny_Tuple_spliced (thn (h pos pins s σ H _ I hq) fun us s1 ⟨xs,H1,I1,r,z,q⟩=>⟨by rw [<- r.length]; exact z,?_⟩);have hf:H1 s1.heap.objs.size=none:=I1.hok.fresh (zav _);refine ⟨.ref s1.heap.objs.size,upd H1 s1.heap.objs.size (.tup xs),I1.laid (t':=s1.toks) (fun b u e=>zaf _ e) (zav _) ?_,rfl,q _ hf⟩;exact ⟨z,us,r,⟨_,zan _ rfl,rfl,_,rfl,rfl⟩⟩
def Dv (h:PA X es t):PE X (.List es pos) (CZ t):=by
 intro pins s σ H Q I hq;refine wpAny_List_spliced (thn (h pos pins s σ H _ I hq) fun us s1 ⟨xs,H1,I1,r,z,q⟩=>⟨by rw [<- r.length]; exact z,?_⟩);have hf:H1 s1.heap.objs.size=none:=I1.hok.fresh (zav _);refine ⟨.ref s1.heap.objs.size,upd H1 s1.heap.objs.size (.lst xs),I1.laid (t':=s1.toks) (fun b u e=>zaf _ e) (zav _) ?_,rfl,q _ hf⟩;exact ⟨z,us,0,r,zan _ rfl⟩
end
abbrev Sp:=List V->Hp->VK->XK->Prop
abbrev CXT:=List Env->Hp->Shared->XK->Value->Shared->Prop
structure Env0 (P:Program) (w:World) (K:PySem.W.Frag) (mg:Str->Option Value) (base:Heap) (A:Around) (outer:List Env) (s:Shared) (H:Hp):Prop where
 frames:A.frames=some outer
 mod:Mod K mg base
 bs:∀ b o,base.get? b=some o->s.heap.get? b=some o/\H b=none
 bsz:base.objs.size<=s.heap.objs.size
 funs:s.heap.FunFrames base outer
 frf:∀ b∈frs outer,H b=none
 hok:HOk P w H s.heap
 bare:AllBare s.gens
def CE (outer:List Env) (P:Program) (w:World) (H:Hp) (s:Shared) (Q:VK) (u:Value) (s':Shared):Prop :=
 ∃ v H',s'.os=s.os/\AllBare s'.gens/\Un (frs outer) [] H H' s.heap s'.heap/\HOk P w H' s'.heap/\RelV v u/\Q v H'
def CR (CX:CXT) (outer:List Env) (P:Program) (w:World) (H:Hp) (s:Shared) (Q:VK) (E:XK) (r:Result) (s':Shared):Prop :=
 match r with
 | .ok (.ret u)=>CE outer P w H s Q u s'
 | .ok _=>False
 | .error e=>CX outer H s E e s'
structure FnOk (P:Program) (w:World) (K:PySem.W.Frag) (mg:Str->Option Value) (base:Heap) (CX:CXT) (k:Nat) (f:Addr) (fd:FuncData) (ps:List Str) (sp:Sp):Prop where
 len:∀ vs H Q E,sp vs H Q E->vs.length=ps.length
 run:∀ (A:Around) (outer:List Env) (s:Shared) (H:Hp) (args:Args) (us:List Value) (vs:List V) (Q:VK) (E:XK),Room k A->Env0 P w K mg base A outer s H->BindsTo s fd args (ps.zip us)->Vals vs us->sp vs H Q E ->
  codeAny (model P w) A (.call (.ref f) args) (CR CX outer P w H s Q E) s
def FnOk.mono {P:Program} {w:World} {K:PySem.W.Frag} {mg:Str->Option Value} {base:Heap} {CX:CXT} {j k:Nat} {f:Addr} {fd:FuncData} {ps:List Str} {sp:Sp} (F:FnOk P w K mg base CX j f fd ps sp) (h:j<=k) :
  FnOk P w K mg base CX k f fd ps sp:=⟨F.len,fun A outer s H args us vs Q E hr=>F.run A outer s H args us vs Q E (hr.mono h)⟩
def FnOk.imp {P:Program} {w:World} {K:PySem.W.Frag} {mg:Str->Option Value} {base:Heap} {CX:CXT} {k:Nat} {f:Addr} {fd:FuncData} {ps:List Str} {sp sp':Sp} (F:FnOk P w K mg base CX k f fd ps sp)
  (h:∀ vs H Q E,sp' vs H Q E->sp vs H Q E):FnOk P w K mg base CX k f fd ps sp' :=
 ⟨fun vs H Q E q=>F.len vs H Q E (h _ _ _ _ q),fun A outer s H args us vs Q E hr he hb hv hs=>F.run A outer s H args us vs Q E hr he hb hv (h _ _ _ _ hs)⟩
section
variable {X:Cx} {pins:List (Addr × Obj)} {σ:St} {H:Hp} {s s':Shared}
def Inv.env0 (I:Inv X pins σ H s):Env0 X.prog X.w X.K X.mg X.base X.A X.stack s H :=
 ⟨I.ok.frames,I.ok.mod,I.bs,zau I.ok.bsz I.sz,I.stack,I.stkFree,I.hok,I.bare⟩
def Inv.after {Q:VK} {u:Value} (I:Inv X pins σ H s) (h:CE X.stack X.prog X.w H s Q u s'):EP X pins σ Q u s':=by
 obtain ⟨v,H',os,bare,un,hok,r,q⟩:=h;obtain ⟨hh,g,d,t,os'⟩:=s';obtain rfl:os'=s.os:=os;exact ⟨v,H',I.call (h':=hh) (g':=g) (d':=d) (t':=t) (ch:=[]) un hok bare (fun b z=>absurd z (by simp)),r,q⟩
end
def oV (sp:Sp) (dvs:List V) (E:XK) (t:TA):TE:=fun σ H Q=>t σ H fun vs H1=>sp (vs++dvs) H1 Q E
def Binds (K:PySem.W.Frag) (fd:FuncData) (ps:List Str) (ds:List Value):Prop :=
 ∀ (s:Shared) (us:List Value),K.In s.heap->(us++ds).length=ps.length->BindsTo s fd ⟨us,[]⟩ (ps.zip (us++ds))
def Binds.all {K:PySem.W.Frag} {fd:FuncData} {ps:List Str} (h:∀ us:List Value,us.length=ps.length->bindArgs fd ⟨us,[]⟩=pure (ps.zip us)):Binds K fd ps []:=fun s us _ hl=>by
 rw [List.append_nil] at hl ⊢;exact .of_eq (h us hl)
def nP (CX:CXT) (X:Cx) (E:XK):Prop:=∀ (pins:List (Addr × Obj)) (σ:St) (H:Hp) (s:Shared) (e:Value) (s':Shared),Inv X pins σ H s->CX X.stack H s E e s'->X.xe e s'
section
variable {X:Cx} {CX:CXT} {k:Nat} {f C:Addr} {fd:FuncData} {ps:List Str} {sp:Sp} {dvs:List V} {ds:List Value} {E:XK} {x m:Str} {p pos apos:Pos} {e o:Expr} {es:List Expr} {ta:TE} {t:TA}
def C7 {pins:List (Addr × Obj)} {σ:St} {H:Hp} {s:Shared} {Q:VK} {us:List Value} {vs:List V} (F:FnOk X.prog X.w X.K X.mg X.base CX k f fd ps sp) (hr:Room k X.A) (hb:Binds X.K fd ps ds) (hd:Vals dvs ds) (hx:nP CX X E)
  (I:Inv X pins σ H s) (r:Vals vs us) (h:sp (vs++dvs) H Q E):wpAny (model X.prog X.w) X.A (call (.ref f) us) (EP X pins σ Q) X.xe s:=by
 have r2:Vals (vs++dvs) (us++ds):=r.append hd;have hl:(us++ds).length=ps.length:=by rw [<- r2.length]; exact F.len _ _ _ _ h
 refine wpAny_call (codeAny_mono (F.run X.A X.stack s H ⟨us,[]⟩ (us++ds) (vs++dvs) Q E hr I.env0 (hb s us I.kIn hl) r2 h) fun r s' hq=>?_);cases r with
 | error e=>exact hx pins σ H s e s' I hq
 | ok fl =>
  cases fl with
  | ret u=>exact I.after hq
  | next=>exact False.elim hq
  | brk=>exact False.elim hq
  | cont=>exact False.elim hq
def Ad (F:FnOk X.prog X.w X.K X.mg X.base CX k f fd ps sp) (hr:Room k X.A) (hg:Gl X x) (hm:X.mg x=some (.ref f)) (hk:PySem.W.keepIn X.K (.ref f)=true) (hb:Binds X.K fd ps ds) (hd:Vals dvs ds) (hx:nP CX X E)
  (ha:PA X (e :: es) t) (hdb:(x == ("__debug__" : Str))=false:=by decide) (he:starEach (e :: es) X.env=(false,eval e X.env) :: starEach es X.env:=by rfl) (hpl:(backTo pos (starEach es X.env)).any (·.1)=false:=by rfl) :
  PE X (.Call (.Name x p) (e :: es) [] pos) (oV sp dvs E t):=by
 intro pins s σ H Q I h;refine wpAny_Call_Name_kw (oB I hg hm ?_ hdb);refine PySem.W.callWith_K (h₀:=X.base) I.ok.mod.kin hk (thn (ha pos pins s σ H _ I h) fun us s1 ⟨vs,H1,I1,r,q⟩=>⟨I1.kIn,?_⟩) he hpl;exact C7 F hr hb hd hx I1 r q
end
section
variable {X:Cx} {CX:CXT} {k:Nat} {f C:Addr} {fd:FuncData} {ps ks:List Str} {sp:Sp} {E:XK} {x m:Str} {p pos apos kpos:Pos} {e o:Expr} {es:List Expr} {kws:List Keyword} {te ta:TE} {t tk:TA} {nm:Option Str}
variable {g:List Value->List Value->List Value} {gV:List V->List V->List V}
end
structure FnScope (N P:List Str) (sc:Scope):Prop where
 kind:sc.kind=.function
 co:sc.isCoroutine=false
 gen:sc.isGenerator=false
 nd:N.Nodup
 pre:N.take P.length=P
 par:∀ x∈P,sc.names.lookup x=some .local\/sc.names.lookup x=some .cell
 nofree:∀ y∈sc.names,y.2≠.free
def mt {kindOf:Str->Option NameKind} {x:Str}:∀ {binds:List (Str × Value)} {m:Str->Option Value},(∀ v,(x,v) ∉ binds)->bindL kindOf binds m x=m x
 | [],_,_=>rfl
 | (n,v) :: r,m,h=>by
  unfold bindL;rw [mt fun w hw=>h w (zaj _ hw)];split
  ·have:x≠n:=by rintro rfl; exact h v zaq
   simp [this]
  ·rfl
def mx {kindOf:Str->Option NameKind} {x:Str}:∀ {binds:List (Str × Value)} {m:Str->Option Value},(∀ v,(x,v) ∉ binds)->bindC kindOf binds m x=m x
 | [],_,_=>rfl
 | (n,v) :: r,m,h=>by
  unfold bindC;rw [mx fun w hw=>h w (zaj _ hw)];split
  ·rfl
  ·have:x≠n:=by rintro rfl; exact h v zaq
   simp [this]
def mw {kindOf:Str->Option NameKind} {x:Str} {v:Value}:∀ {P:List Str} {vs:List Value} {i:Nat} {m:Str->Option Value},P.Nodup->P[i]?=some x->vs[i]?=some v->kindOf x=some .local ->
  bindL kindOf (P.zip vs) m x=some v
 | [],_,_,_,_,h,_,_=>by simp at h
 | _ :: _,[],_,_,_,_,h,_=>by simp at h
 | p :: P,w :: vs,0,m,nd,h1,h2,hk=>by
  simp at h1 h2; subst h1; subst h2;show bindL kindOf ((p,w) :: P.zip vs) m p=_;unfold bindL;rw [mt fun v hv=>(zbb.mp nd).1 (List.of_mem_zip hv).1,if_pos hk];simp
 | p :: P,w :: vs,i+1,m,nd,h1,h2,hk=>by
  show bindL kindOf ((p,w) :: P.zip vs) m x=_;unfold bindL;exact mw (i:=i) (zbb.mp nd).2 (by simpa using h1) (by simpa using h2) hk
def my {kindOf:Str->Option NameKind} {x:Str} {v:Value}:∀ {P:List Str} {vs:List Value} {i:Nat} {m:Str->Option Value},P.Nodup->P[i]?=some x->vs[i]?=some v->kindOf x≠some .local ->
  bindC kindOf (P.zip vs) m x=some v
 | [],_,_,_,_,h,_,_=>by simp at h
 | _ :: _,[],_,_,_,_,h,_=>by simp at h
 | p :: P,w :: vs,0,m,nd,h1,h2,hk=>by
  simp at h1 h2; subst h1; subst h2;show bindC kindOf ((p,w) :: P.zip vs) m p=_;unfold bindC;rw [mx fun v hv=>(zbb.mp nd).1 (List.of_mem_zip hv).1,if_neg hk];simp
 | p :: P,w :: vs,i+1,m,nd,h1,h2,hk=>by
  show bindC kindOf ((p,w) :: P.zip vs) m x=_;unfold bindC;exact my (i:=i) (zbb.mp nd).2 (by simpa using h1) (by simpa using h2) hk
def du (N:List Str) (vs:List V):St:=vs.map some++List.replicate (N.length - vs.length) none
def kw (CX:CXT) (P:Program) (w:World) (K:PySem.W.Frag) (mg:Str->Option Value) (base:Heap) (N:List Str) (qual:Str) (scope:Scope) (f:Addr) (cd:Value) (A:Around) (outer:List Env) (s:Shared) (H:Hp) (E:XK):Cx where
 prog:=P
 w:=w
 K:=K
 mg:=mg
 base:=base
 A:=A.deeper (envOfC qual scope s.heap.objs.size f cd)
 N:=N
 s₀:=s
 H₀:=H
 env:=envOfC qual scope s.heap.objs.size f cd
 outer:=outer
 stack:=envOfC qual scope s.heap.objs.size f cd :: outer
 ex:=[]
 calm:=true
 fn:=fun _=>true
 pn:=[]
 xe:=fun e s'=>wpAny (model P w) (A.deeper (envOfC qual scope s.heap.objs.size f cd)) (leaving (envOfC qual scope s.heap.objs.size f cd) e) (fun _ s''=>CX outer H s E e s'') (fun e' s''=>CX outer H s E e' s'') s'
def nJ {sc:Scope} {n:Nat} {x:Str} (h:sc.names.lookup x=some .cell):∃ c,(cellsFrom n sc.names []).lookup x=some c:=by
 have q:=PySem.W.cellsFrom_some sc.names n [] (.inl h);exact Option.isSome_iff_exists.mp q
def qG {CX:CXT} {P:Program} {w:World} {K:PySem.W.Frag} {mg:Str->Option Value} {base:Heap} {N ps:List Str} {qual:Str} {scope:Scope} {f:Addr} {cd:Value} {A:Around} {outer:List Env} {s s1:Shared} {H:Hp} {E:XK} {us:List Value} {vs:List V}
  (S:FnScope N ps scope) (hd:A.handled=none) (e0:Env0 P w K mg base A outer s H) (hl:vs.length=ps.length) (r:Vals vs us)
  (x:InCallC s s.heap.objs.size (bindL (envOfC qual scope s.heap.objs.size f cd).kindOf (ps.zip us) fun _=>none) (cellsFrom (s.heap.objs.size+1) scope.names []) (bindC (envOfC qual scope s.heap.objs.size f cd).kindOf (ps.zip us) fun _=>none) s1) :
  Inv (kw CX P w K mg base N qual scope f cd A outer s H E) [] (du N vs) H s1:=by
 have hpl:ps.length<=N.length:=by have:=congrArg List.length S.pre; rw [zaE] at this; omega
 obtain ⟨h1,tk,rfl,hk⟩:=x.done;have noA:∀ b:Addr,b ∉ (kw CX P w K mg base N qual scope f cd A outer s H E).ex:=fun b z=>absurd (show b∈([]:List Addr) from z) (by simp);refine ⟨⟨e0.mod,S.kind,rfl,rfl,zav _,fun y z c h1 h2=>?_,fun y hy=>?_,fun y c _ h=>?_,fun _=>hd,Around.frames_deeper e0.frames,.inr ⟨rfl,rfl⟩,fun b z=>absurd z (noA b),e0.bs,e0.bsz,fun b _ _=>noA b,fun b z=>absurd z (noA b),e0.funs,e0.frf⟩,
  rfl,e0.bare,Un.kept hk,⟨_,x.toInCall.ns,fun i y v h1 h2 h3=>?_⟩,fun y c h=>⟨_,x.cell y c h⟩,e0.hok.fresh (zav _),fun y c h=>?_,fun p hp=>absurd (show p∈([]:List (Addr × Obj)) from hp) (by simp),e0.hok.kept hk,?_⟩
 ·exact name_of_addr x.apart (zaU h1) (zaU h2)
 ·have hy:scope.names.lookup y=some .cell\/scope.names.lookup y=some .free:=hy;rcases hy with hy | hy
  ·exact nJ hy
  ·exact absurd rfl (S.nofree _ (zaU hy))
 ·exact Nat.le_of_lt (x.above y c (zaU h))
 ·have hi:i < vs.length:=by
   unfold du at h2;by_cases hi:i < vs.length
   ·exact hi
   ·rw [List.getElem?_append_right (by simpa using hi)] at h2;rw [List.getElem?_replicate] at h2;split at h2 <;> cases h2
  have ha:vs[i]?=some v:=by
   unfold du at h2;rw [zaS (by simpa using hi),zao] at h2;cases e:vs[i]? with
   | none=>rw [e] at h2; cases h2
   | some a=>rw [e] at h2; cases h2; rfl
  obtain ⟨u,hu,rv⟩:=r.get ha;have hp:ps[i]?=some y:=by
   rw [<- S.pre,List.getElem?_take_of_lt (by omega)]; exact h1
  have ndP:ps.Nodup:=by rw [<- S.pre]; exact S.nd.sublist (List.take_sublist _ _)
  refine ⟨u,rv,?_⟩;rcases S.par y (zaX hp) with k | k
  ·exact .inl ⟨k,mw ndP hp hu k⟩
  ·obtain ⟨c,e⟩:=nJ (n:=s.heap.objs.size+1) k;refine .inr ⟨.inl k,c,e,?_⟩;have q:=x.cell y c e;rw [my ndP hp hu (by show scope.names.lookup y≠_; rw [k]; decide)] at q;exact q
 ·exact e0.hok.fresh (Nat.le_of_lt (x.above y c (zaU h)))
 ·unfold du;show _=N.length;rw [zae,zad,List.length_replicate];omega
def Fw {CX:CXT} {P:Program} {w:World} {K:PySem.W.Frag} {mg:Str->Option Value} {base:Heap} {k:Nat} {f:Addr} {name qual:Str} {params:Arguments} {body:List Stmt} {scope:Scope} {dV kV doc pm cdv ct oc:Value} {an od:Option Addr}
  {osl:Array (Option Value)} {N ps:List Str} {sp:Sp} (lk:K.lookup f=some ⟨oc,od,.func (PySem.W.fnOf name qual params body scope dV kV doc pm an cdv ct),osl⟩) (hcd:PySem.W.codeIn K cdv qual=true) (S:FnScope N ps scope)
  (len:∀ vs H Q E,sp vs H Q E->vs.length=ps.length)
  (hbody:∀ (A:Around) (outer:List Env) (s:Shared) (H:Hp) (vs:List V) (Q:VK) (E:XK),Room k (A.deeper (envOfC qual scope s.heap.objs.size f cdv))->sp vs H Q E ->
   ∃ t,PSs (kw CX P w K mg base N qual scope f cdv A outer s H E) body t/\t { nx:=fun _ H'=>Q .non H',rt:=Q } (du N vs) H) :
  FnOk P w K mg base CX (k+1) f (PySem.W.fnOf name qual params body scope dV kV doc pm an cdv ct) ps sp:=by
 refine ⟨len,fun A outer s H args us vs Q E hr e0 hb r hsp=>?_⟩;have hl:=len _ _ _ _ hsp;have KX:K.In s.heap:=e0.mod.kin.keeps fun b o e=>(e0.bs b o e).1;have lim:s.heap.NoLimit:=e0.mod.nolimit.keeps fun b o e=>(e0.bs b o e).1;have hkind:∀ y∈ps.zip us,scope.names.lookup y.1=some .local\/(scope.names.lookup y.1=some .cell/\((cellsFrom (s.heap.objs.size+1) scope.names []).lookup y.1).isSome=true):=fun ⟨n,v⟩ hy=>by
  rcases S.par n (List.of_mem_zip hy).1 with q | q
  ·exact .inl q
  ·exact .inr ⟨q,PySem.W.cellsFrom_some _ _ _ (.inl q)⟩
 refine codeAny_call_function hr.depth (KX _ _ lk) rfl S.co S.gen rfl (PySem.W.codeRec_of KX hcd) (hb _ _ _ _ ?_);refine wpAny_newFunctionEnv_cells S.kind hkind fun env he s1 x=>?_;subst he;refine ⟨lim.keeps x.toInCall.keep,codeAny_func ?_⟩;obtain ⟨t,ht,hq⟩:=hbody A outer s H vs Q E (hr.deeper _) hsp;have I:Inv (kw CX P w K mg base N qual scope f cdv A outer s H E) [] (du N vs) H s1:=qG S hr.hd e0 hl r x;refine wpAny_mono (ht [] s1 (du N vs) H _ I hq) (fun fl s' hs=>?_) fun e s' hs=>hs;have fin:∀ {σ':St} {H':Hp} {v:V} {u:Value},Inv (kw CX P w K mg base N qual scope f cdv A outer s H E) [] σ' H' s'->RelV v u->Q v H'->CE outer P w H s Q u s' :=
  fun {σ' H' v u} J rv q=>⟨v,H',J.os,J.bare,J.base,J.hok,rv,q⟩
 cases fl with
 | ret u =>
  obtain ⟨v,σ',H',J,rv,q⟩:=hs;exact fin J rv q
 | next =>
  obtain ⟨σ',H',J,q⟩:=hs;exact fin (v:=V.non) (u:=Value.none) J rfl q
 | brk =>
  obtain ⟨_,_,_,q⟩:=hs;exact False.elim q
 | cont =>
  obtain ⟨_,_,_,q⟩:=hs;exact False.elim q
section
variable {X:Cx} {x:Str} {p pos:Pos} {e:Expr} {es:List Expr} {t:TA} {id T:String} {r:List V->Hp->VK->Prop}
def tCB (r:List V->Hp->VK->Prop) (t:TA):TE:=fun σ H Q=>t σ H fun vs H1=>r vs H1 Q
def kf (hc:CallR X (.builtin id) r) (hg:Gl X x) (hm:X.mg x=none) (hv:bootBuiltins x=some (.builtin id)) (ha:PA X (e :: es) t) (hn:x≠"__name__":=by decide) (hdb:(x == ("__debug__" : Str))=false:=by decide)
  (he:starEach (e :: es) X.env=(false,eval e X.env) :: starEach es X.env:=by rfl) (hpl:(backTo pos (starEach es X.env)).any (·.1)=false:=by rfl):PE X (.Call (.Name x p) (e :: es) [] pos) (tCB r t):=by
 intro pins s σ H Q I h;refine wpAny_Call_Name_kw (jj I hg hm hv ?_ hn hdb);exact PyProof.Rows.callWith_builtin1 (thn (ha pos pins s σ H _ I h) fun us s1 ⟨vs,H1,I1,r1,q1⟩=>hc pins s1 σ H1 vs us Q I1 r1 q1) he hpl
def l5 (hc:CallR X (.type T) r) (hg:Gl X x) (hm:X.mg x=none) (hv:bootBuiltins x=some (.type T)) (ha:PA X (e :: es) t) (hn:x≠"__name__":=by decide) (hdb:(x == ("__debug__" : Str))=false:=by decide)
  (he:starEach (e :: es) X.env=(false,eval e X.env) :: starEach es X.env:=by rfl) (hpl:(backTo pos (starEach es X.env)).any (·.1)=false:=by rfl):PE X (.Call (.Name x p) (e :: es) [] pos) (tCB r t):=by
 intro pins s σ H Q I h;refine wpAny_Call_Name_kw (jj I hg hm hv ?_ hn hdb);exact PyProof.Rows.callWith_type1 (thn (ha pos pins s σ H _ I h) fun us s1 ⟨vs,H1,I1,r1,q1⟩=>hc pins s1 σ H1 vs us Q I1 r1 q1) he hpl
end
end L2
namespace HT
open PySem PyProof.Rows
section
open PySem.SeqAt
open PySem.AutoSeq1 (wpAny_loadPart')
open PySem.MeetsSeq PySem.MeetsSeq2 PySem.MeetsSeq3
end
section
variable {prog:Program} {w:World} {A:Around} {E:Value->Shared->Prop} {s:Shared}
def cat_tup {t b:Addr} {vs ws:List Value} {Q:Value->Shared->Prop} (ht:IsTup s.heap t vs.toArray) (hb:IsTup s.heap b ws.toArray) (hv:vs≠[])
  (h1:ws=[]->Q (.ref t) s) (h2:ws≠[]->Q (.ref s.heap.objs.size) { s with heap:=s.heap.push { cls:=.type "tuple",data:=.seq (vs++ws).toArray } })
  (hsz:vs.length+ws.length<=sizeLine):wpAny (model prog w) A (binaryOp .Add (.ref t) (.ref b)) Q E s:=by
 obtain ⟨⟨cls,dd,data,sl⟩,ho,hc,n,hd⟩:=id ht;obtain ⟨⟨cls2,dd2,data2,sl2⟩,ho2,hc2,n2,hd2⟩:=id hb;simp only at hc hd hc2 hd2;subst hc hd hc2 hd2;have e:vs.toArray++ws.toArray=(vs++ws).toArray:=by simp
 by_cases hw:ws=[]
 ·exact concat_meets ⟨_,ho,rfl⟩ ⟨_,ho2,rfl⟩ noFill_tuple_add seq_tuple_add PySem.F.slot_tuple_add PySem.F.entry_tuple_add (PySem.F.args_tuple_add_2 _ _)
   (tuple_addW1 t b vs.toArray ws.toArray n n2 dd dd2 sl sl2 (by simpa using hv) (by simp [hw])) ⟨ho,ho2,h1 hw⟩
 ·refine concat_meets ⟨_,ho,rfl⟩ ⟨_,ho2,rfl⟩ noFill_tuple_add seq_tuple_add PySem.F.slot_tuple_add PySem.F.entry_tuple_add (PySem.F.args_tuple_add_2 _ _)
   (tuple_addW2 t b vs.toArray ws.toArray n n2 dd dd2 sl sl2 (by simpa using hv) (by simpa using hw) (by rw [zai,zai]; exact hsz)) ⟨ho,ho2,?_⟩
  rw [e];exact h2 hw
def sIx (n d:Nat):Option Int->Nat
 | none=>d
 | some v=>if v < 0 then (v+(n:Int)).toNat else min v.toNat n
def sIx_none (n d:Nat):sIx n d none=d:=rfl
def sIx_nat (n d k:Nat):sIx n d (some (k:Int))=min k n:=by
 show (if (k:Int) < 0 then ((k:Int)+(n:Int)).toNat else min (k:Int).toNat n)=min k n;rw [if_neg (by omega),zaL]
def m5 (n d:Nat) (hd:d<=n) (o:Option Int):sIx n d o<=n:=by
 cases o with
 | none=>exact hd
 | some v =>
  show (if v < 0 then (v+(n:Int)).toNat else min v.toNat n)<=n;by_cases hv:v < 0
  ·rw [if_pos hv]; omega
  ·rw [if_neg hv]; exact Nat.min_le_right _ _
def oM (v:Int) (n d:Nat):(if v < 0 then max (v+(n:Int)) 0 else min v (n:Int))=((sIx n d (some v):Nat):Int):=by
 show (if v < 0 then max (v+(n:Int)) 0 else min v (n:Int))=(((if v < 0 then (v+(n:Int)).toNat else min v.toNat n):Nat):Int);by_cases hv:v < 0
 ·simp only [if_pos hv]; omega
 ·simp only [if_neg hv]; omega
def pU (lo hi:Option Int) (n:Nat):Builtin.Slice.sliceAdjust lo hi 1 (n:Int)=(((sIx n 0 lo:Nat):Int),((sIx n n hi:Nat):Int)):=by
 have h1:¬ ((1:Int) < 0):=by omega
 unfold Builtin.Slice.sliceAdjust;simp only [h1,if_false];refine Prod.ext ?_ ?_
 ·cases lo with
  | none=>rfl
  | some v=>exact oM v n 0
 ·cases hi with
  | none=>rfl
  | some v=>exact oM v n n
def o9 (i j:Nat):Builtin.Slice.slicePlaces (i:Int) (j:Int) 1=j - i:=by
 unfold Builtin.Slice.slicePlaces;have h1:(1:Int) > 0:=by omega
 simp only [h1,if_true,Int.ediv_one];split <;> omega
def kJ {v:Value} {o:Option Int} {Q:Option Int->Shared->Prop} (p:IsPart v o) (h:Q o s):wpAny (model prog w) A (Builtin.Slice.slicePartIndex v) Q E s:=by
 cases p with
 | none=>exact slicePart_none h
 | int i t=>exact slicePart_int h
def gg {sl:Addr} {vl vu:Value} {lo hi:Option Int} {n:Nat} {Q:Int × Int × Nat->Shared->Prop} (hs:s.heap.IsSliceOf sl vl vu .none) (pl:IsPart vl lo) (pu:IsPart vu hi)
  (h:Q (((sIx n 0 lo:Nat):Int),1,sIx n n hi - sIx n 0 lo) s):wpAny (model prog w) A (Builtin.Slice.sliceApplied (.ref sl) (pure (n:Int))) Q E s:=by
 obtain ⟨os,hos,hcs,hds⟩:=id hs;unfold Builtin.Slice.sliceApplied Builtin.Slice.sliceFields;refine zam (zam (wpAny_field hos hds (x:=vl) rfl (zam (wpAny_field hos hds (x:=vu) rfl (zam (wpAny_field hos hds (x:=.none) rfl (zaT ?_)))))));refine zam (slicePart_none ?_);show wpAny _ _ (if ((1:Int) == 0)=true then _ else _) _ _ s;rw [if_neg (by decide)];refine zam (kJ pl (zam (kJ pu (zam (zaT ?_)))));show wpAny _ _ (match Builtin.Slice.sliceAdjust lo hi 1 (n:Int) with | (lo,hi)=>pure (lo,(1:Int),Builtin.Slice.slicePlaces lo hi 1)) _ _ s;rw [pU lo hi n];show wpAny _ _ (pure (((sIx n 0 lo:Nat):Int),(1:Int),Builtin.Slice.slicePlaces ((sIx n 0 lo:Nat):Int) ((sIx n n hi:Nat):Int) 1)) _ _ s;rw [o9];exact zaT h
def rQ (xs:Array Value) (i k:Nat):((List.range k).filterMap fun (m:Nat)=>xs[((i:Int)+(m:Int) * 1).toNat]?).toArray=((xs.toList.drop i).take k).toArray:=by
 have e:(fun (m:Nat)=>xs[((i:Int)+(m:Int) * 1).toNat]?)=fun m=>xs[i+m]?:=by
  funext m
  have:((i:Int)+(m:Int) * 1).toNat=i+m:=by omega
  rw [this]
 rw [e]
 have:=pick_run xs i k;rw [List.filterMap_map] at this;have e2:((fun x=>xs[x]?) ∘ fun x=>i+x)=fun m=>xs[i+m]?:=rfl;rw [e2] at this;rw [this]
def getItem_tuple_cut {t sl:Addr} {items:Array Value} {vl vu:Value} {lo hi:Option Int} {Q:Value->Shared->Prop} (ht:IsTup s.heap t items) (hs:s.heap.IsSliceOf sl vl vu .none) (pl:IsPart vl lo) (pu:IsPart vu hi)
  (hw:¬ (sIx items.size 0 lo=0/\sIx items.size items.size hi=items.size))
  (h:Q (.ref s.heap.objs.size) { s with heap:=s.heap.push { cls:=.type "tuple",data:=.seq ((items.toList.drop (sIx items.size 0 lo)).take (sIx items.size items.size hi - sIx items.size 0 lo)).toArray } })
  (hsz:items.size<=sizeLine):wpAny (model prog w) A (getItem (.ref t) (.ref sl)) Q E s:=by
 have htake:sizeOk (.seq ((items.toList.drop (sIx items.size 0 lo)).take (sIx items.size items.size hi - sIx items.size 0 lo)).toArray):=by
  show ((items.toList.drop (sIx items.size 0 lo)).take (sIx items.size items.size hi - sIx items.size 0 lo)).toArray.size<=sizeLine;rw [zai,zaE,zaF,zaY];omega
 have hj:sIx items.size items.size hi<=items.size:=m5 _ _ (zav _) hi;obtain ⟨os,hos,hcs,hds⟩:=id hs;have hTs:s.TypeIs (.ref sl) "slice":=⟨os,hos,hcs⟩;unfold getItem
 try with_reducible refine wpAny_holding ?_
 first | refine zam (zaT ?_) | skip
 refine zam (wpAny_sequenceKey ht.typeIs (by decide) ?_);refine zam (wpAny_callSpecial?_slot (name:=Str.ofString "__getitem__") ht.typeIs PyProof.Rows.slot_tuple_getitem
  (wpAny_call_entry PyProof.Rows.slot_tuple_getitem ht.typeIs entry_tuple_getitem ?_ (args_tuple_getitem _ _)))
 show wpAny _ _ (Builtin.Tuple.tupleItemsOf (.ref t) >>= _) _ _ s;refine zam (tupleItemsOf_ ht ?_);refine zam (wpAny_typeOf hTs ?_);rw [if_pos (by decide)];refine zam (gg hs pl pu ?_);have hno:¬ ((((sIx items.size 0 lo:Nat):Int) == 0 && (1:Int) == 1 && (sIx items.size items.size hi - sIx items.size 0 lo) == items.size)=true):=by
  intro q;rw [Bool.and_eq_true,Bool.and_eq_true] at q;have q1:((sIx items.size 0 lo:Nat):Int)=0:=eq_of_beq q.1.1;have q2:sIx items.size items.size hi - sIx items.size 0 lo=items.size:=eq_of_beq q.2;exact hw ⟨by omega,by omega⟩
 show wpAny _ _ (if (((sIx items.size 0 lo:Nat):Int) == 0 && (1:Int) == 1 && (sIx items.size items.size hi - sIx items.size 0 lo) == items.size)=true then _ else _) _ _ s;rw [if_neg hno,rQ]
 first
  | exact zam (m:=Builtin.Tuple.tupleExact _) (wpAny_newObj_type (zaT ⟨_,rfl,zaT h⟩) htake)
  | exact zam (m:=Builtin.Tuple.tupleExact _) (wpAny_newObj_type (zam (zaT (zaT ⟨_,rfl,zaT h⟩))) htake)
  | exact zam (zam (m:=Builtin.Tuple.tupleExact _) (wpAny_newObj_type (zaT (zaT ⟨_,rfl,zaT h⟩)) htake))
  | exact zam (zam (m:=Builtin.Tuple.tupleExact _) (wpAny_newObj_type (zaT ⟨_,rfl,zaT h⟩) htake))
end
end HT
namespace L2
open PySem PySem.Spec PyProof.Rows
abbrev TO:=St->Hp->(Option Int->Hp->Prop)->Prop
def PO (X:Cx) (e:Option Expr) (t:TO):Prop :=
 ∀ (pins:List (Addr × Obj)) (s:Shared) (σ:St) (H:Hp) (Q:Option Int->Hp->Prop),Inv X pins σ H s->t σ H Q ->
  wpAny (model X.prog X.w) X.A (evalPart e X.env) (fun u s'=>∃ o H',Inv X pins σ H' s'/\IsPart u o/\Q o H') X.xe s
def zP:TO:=fun _ H Q=>Q none H
def EX (t:TE):TO:=fun σ H Q=>t σ H fun x H1=>∃ i,x=.int i/\Q (some i) H1
section
variable {X:Cx} {e:Expr} {te:TE} {lo hi:Option Expr} {tl th:TO} {pos p2:Pos}
def po_none:PO X none zP:=by
 intro pins s σ H Q I h;rw [evalPart_none];exact zaT ⟨none,H,I,.none,h⟩
def zY (h:PE X e te):PO X (some e) (EX te):=by
 intro pins s σ H Q I hw;rw [evalPart_some];refine thn (h pins s σ H _ I hw) fun u s1 ⟨x,H1,I1,r1,q1⟩=>?_;obtain ⟨i,rfl,q⟩:=q1;obtain ⟨t,rfl⟩:=r1;exact ⟨some i,H1,I1,.int i t,q⟩
def SlR (X:Cx) (r:V->Option Int->Option Int->Hp->VK->Prop):Prop :=
 ∀ (pins:List (Addr × Obj)) (s:Shared) (σ:St) (H:Hp) (x:V) (v vl vu:Value) (lo hi:Option Int) (sl:Addr) (Q:VK),Inv X pins σ H s->RelV x v->s.heap.IsSliceOf sl vl vu .none->IsPart vl lo->IsPart vu hi->r x lo hi H Q ->
  ∃ T id,typeLookup (.type T) "__getitem__"=pure (some (.builtin id))/\s.TypeIs v T/\wpAny (model X.prog X.w) X.A (getItem v (.ref sl)) (EP X pins σ Q) X.xe s
def tSl (r:V->Option Int->Option Int->Hp->VK->Prop) (te:TE) (tl th:TO):TE:=fun σ H Q=>te σ H fun x H1=>tl σ H1 fun l H2=>th σ H2 fun u H3=>r x l u H3 Q
def rR {r:V->Option Int->Option Int->Hp->VK->Prop} (hr:SlR X r) (he:PE X e te) (hl:PO X lo tl) (hu:PO X hi th):PE X (.Subscript e (.Slice lo hi none p2) pos) (tSl r te tl th):=by
 intro pins s σ H Q I h;refine Subscript_ (thn (he pins s σ H _ I h) fun v s1 ⟨x,H1,I1,r1,q1⟩=>?_);refine wpAny_Slice (thn (hl pins s1 σ H1 _ I1 q1) fun vl s2 ⟨l,H2,I2,pl,q2⟩=>thn (hu pins s2 σ H2 _ I2 q2) fun vu s3 ⟨u,H3,I3,pu,q3⟩=>?_);rw [evalPart_none];refine zaT ?_;have I4:Inv X pins σ H3 { s3 with heap:=s3.heap.push { cls:=.type "slice",data:=.fields #[vl,vu,.none] } }:=I3.kept (t':=s3.toks) fun b ob q=>zaf _ q;obtain ⟨T,id,hT,ht,hg⟩:=hr pins { s3 with heap:=s3.heap.push { cls:=.type "slice",data:=.fields #[vl,vu,.none] } } σ H3 x v vl vu l u s3.heap.objs.size Q I4 r1 (Heap.IsSliceOf.new ..) pl pu q3;show wpAny (model X.prog X.w) X.A (subscriptTail e (.Slice lo hi none p2) v (.ref s3.heap.objs.size)) (EP X pins σ Q) X.xe { s3 with heap:=s3.heap.push { cls:=.type "slice",data:=.fields #[vl,vu,.none] } };exact tail_any (ops:=[.ref s3.heap.objs.size,v]) ht hT hg (by with_unfolding_all rfl)
def h8 (xs:List V) (lo hi:Option Int):List V:=(xs.drop (HT.sIx xs.length 0 lo)).take (HT.sIx xs.length xs.length hi - HT.sIx xs.length 0 lo)
def j4 (xs:List V) (lo hi:Option Int):(h8 xs lo hi).length<=xs.length:=by
 unfold h8;rw [zaE,zaF];omega
def C9 (K:PySem.W.Frag):V->Option Int->Option Int->Hp->VK->Prop:=fun x lo hi H Q=>∃ a xs,x=.ref a/\SqT K H a xs /\
 ¬ (HT.sIx xs.length 0 lo=0/\HT.sIx xs.length xs.length hi=xs.length)/\∀ p,H p=none->Q (.ref p) (upd H p (.tup (h8 xs lo hi)))
def C4:SlR X (C9 X.K):=by
 intro pins s σ H x v vl vu lo hi sl Q I rx hs pl pu h;obtain ⟨a,xs,rfl,hx,hw,q⟩:=h;cases rx;obtain ⟨its,r,ht,hz⟩:=I.tuple hx;have hlen:its.toArray.size=xs.length:=by rw [zai]; exact r.length.symm
 refine ⟨"tuple",_,PyProof.Rows.slot_tuple_getitem.lookup,ht.typeIs,?_⟩;refine HT.getItem_tuple_cut ht hs pl pu (by rw [hlen]; exact hw) ?_ (by rw [hlen]; exact hz);rw [hlen];refine ⟨.ref s.heap.objs.size,_,I.laid (t':=s.toks) (o:=.tup (h8 xs lo hi)) (fun b ob q=>zaf _ q) (zav _) ?_,rfl,q _ (I.hok.fresh (zav _))⟩;exact ⟨zau (j4 xs lo hi) hz,_,(r.drop (HT.sIx xs.length 0 lo)).take (HT.sIx xs.length xs.length hi - HT.sIx xs.length 0 lo),IsTupN.new _ _⟩
def zu (K:PySem.W.Frag):R2:=fun x y H Q=>∃ a b xs ys,x=.ref a/\y=.ref b/\SqT K H a xs/\SqT K H b ys/\xs≠[]/\xs.length+ys.length<=sizeLine /\
 (ys=[]->Q (.ref a) H)/\(ys≠[]->∀ p,H p=none->Q (.ref p) (upd H p (.tup (xs++ys))))
def Vals.nil_iff {xs:List V} {us:List Value} (r:Vals xs us):us=[]↔xs=[]:=by
 cases r with
 | nil=>simp
 | cons _ _=>simp
def Af:OpR X (binaryOp .Add) (zu X.K):=by
 intro pins s σ H x y v u Q I rx ry h;obtain ⟨a,b,xs,ys,rfl,rfl,ha,hb,hx,hz,q1,q2⟩:=h;cases rx;cases ry;obtain ⟨its,r1,p1,_⟩:=I.tuple ha;obtain ⟨its2,r2,p2,_⟩:=I.tuple hb;refine HT.cat_tup p1 p2 (fun z=>hx (r1.nil_iff.mp z)) (fun z=>⟨.ref a,H,I,rfl,q1 (r2.nil_iff.mp z)⟩) (fun z=>?_) (by rw [<- r1.length,<- r2.length]; exact hz);refine ⟨.ref s.heap.objs.size,_,I.laid (t':=s.toks) (o:=.tup (xs++ys)) (fun b ob q=>zaf _ q) (zav _) ?_,rfl,q2 (fun w=>z (r2.nil_iff.mpr w)) _ (I.hok.fresh (zav _))⟩;exact ⟨by rw [zae]; exact hz,_,r1.append r2,IsTupN.new _ _⟩
end
def ixN (n:Nat) (i:Int):Option Nat:=if 0<=i then (if i < n then some i.toNat else none) else if -(n:Int)<=i then some (i+n).toNat else none
def atI {α:Type} (xs:List α) (i:Int):Option α:=(ixN xs.length i).bind fun j=>xs[j]?
def oD {n:Nat} {i:Int} {j:Nat} (h:ixN n i=some j):seqIndex? i n=some j/\j < n/\-(n:Int)<=i/\i < n:=by
 unfold ixN at h;by_cases h0:0<=i
 ·rw [if_pos h0] at h;by_cases h1:i < n
  ·rw [if_pos h1] at h;have e:i.toNat=j:=zat h;exact ⟨by rw [seqIndex_of h0 h1,e],by omega,by omega,h1⟩
  ·rw [if_neg h1] at h; cases h
 ·rw [if_neg h0] at h;by_cases h1:-(n:Int)<=i
  ·rw [if_pos h1] at h;have e:(i+n).toNat=j:=zat h;exact ⟨by rw [seqIndex_neg (by omega) h1,e],by omega,h1,by omega⟩
  ·rw [if_neg h1] at h; cases h
def lR {α:Type} {xs:List α} {i:Int} {v:α} (h:atI xs i=some v):∃ j,seqIndex? i xs.length=some j/\xs[j]?=some v/\j < xs.length/\-(xs.length:Int)<=i/\i < xs.length:=by
 unfold atI at h;cases e:ixN xs.length i with
 | none=>rw [e] at h; cases h
 | some j =>
  rw [e] at h;obtain ⟨h1,h2,h3,h4⟩:=oD e;exact ⟨j,h1,h,h2,h3,h4⟩
def iy (b:Expr):Prop:=∀ o i,subscripted b false o i=operate [o,i] (getItem o i)
def IxR (X:Cx) (r:R2):Prop :=
 ∀ (value slice:Expr) (pins:List (Addr × Obj)) (s:Shared) (σ:St) (H:Hp) (x y:V) (v u:Value) (Q:VK),Inv X pins σ H s->RelV x v->RelV y u->r x y H Q ->
  subscripted slice false v u=operate [v,u] (getItem v u)->wpAny (model X.prog X.w) X.A (subscriptTail value slice v u) (EP X pins σ Q) X.xe s
def MtR (X:Cx) (id:String) (r:V->List V->Hp->VK->Prop):Prop :=
 ∀ (pins:List (Addr × Obj)) (s:Shared) (σ:St) (H:Hp) (x:V) (xs:List V) (v:Value) (us:List Value) (Q:VK),Inv X pins σ H s->RelV x v->Vals xs us->r x xs H Q ->
  wpAny (model X.prog X.w) X.A (call (.builtin id) (v :: us)) (EP X pins σ Q) X.xe s
section
variable {X:Cx} {a b:Expr} {ta tb:TE} {pos:Pos}
def IxR.or {r r':R2} (h:IxR X r) (h':IxR X r'):IxR X (fun x y H Q=>r x y H Q\/r' x y H Q):=by
 intro value slice pins s σ H x y v u Q I rx ry q hs;rcases q with q | q
 ·exact h value slice pins s σ H x y v u Q I rx ry q hs
 ·exact h' value slice pins s σ H x y v u Q I rx ry q hs
def zv {r:R2} (hr:IxR X r) (ha:PE X a ta) (hb:PE X b tb) (hs:iy b):PE X (.Subscript a b pos) (tOp r ta tb):=by
 intro pins s σ H Q I h;exact Subscript_ (sR ha hb I h fun v u s2 x y H2 I2 rx ry q=>hr a b pins s2 σ H2 x y v u Q I2 rx ry q (hs _ _))
def o7 (K:PySem.W.Frag):R2:=fun x y H Q=>∃ p xs i v,x=.ref p/\y=.int i/\SqL K H p xs/\atI xs i=some v/\Q v H
def Dc (K:PySem.W.Frag):R2:=fun x y H Q=>∃ p xs i v,x=.ref p/\y=.int i/\SqT K H p xs/\atI xs i=some v/\Q v H
def Dd:R2:=fun x y H Q=>∃ z i c,x=.str z/\y=.int i/\z.length<=sizeLine/\atI z.cps.toList i=some c/\Q (.str ⟨#[c]⟩) H
def ix_list:IxR X (o7 X.K):=by
 intro value slice pins s σ H x y v u Q I rx ry h hs;obtain ⟨p,xs,i,z,rfl,rfl,hq,he,q⟩:=h;cases rx;obtain ⟨t,rfl⟩:=ry;obtain ⟨its,r,pl,hz⟩:=I.list hq;obtain ⟨j,h1,h2,h3,h4,h5⟩:=lR he;obtain ⟨w,ew,rw'⟩:=r.get h2;have hl:=r.length;have hn:=iu;have fin:EP X pins σ Q w s:=⟨z,H,I,rw',q⟩;by_cases h0:0<=i
 ·have hj:i.toNat=j:=by
   rw [seqIndex_of h0 h5] at h1;exact zat h1
  exact item_listR pl.isList h0 (by omega) (by rw [hj]; simpa using ew) fin hs
 ·have hj:(i+(its.toArray.size:Int)).toNat=j:=by
   rw [seqIndex_neg (by omega) h4] at h1;rw [zai,<- hl];exact zat h1
  exact subscriptTail_builtinR (x:=w) pl.isList.typeIs slot_list_getitem.lookup
   (wpAny_getItem_list_neg (Q:=fun r s'=>r=w/\EP X pins σ Q r s') pl.isList (by omega) (by rw [zai] <;> omega) (by omega) (by rw [hj]; simpa using ew) ⟨rfl,fin⟩) hs
def ix_tup:IxR X (Dc X.K):=by
 intro value slice pins s σ H x y v u Q I rx ry h hs;obtain ⟨p,xs,i,z,rfl,rfl,hq,he,q⟩:=h;cases rx;obtain ⟨t,rfl⟩:=ry;obtain ⟨its,r,pl,hz⟩:=I.tuple hq;obtain ⟨j,h1,h2,h3,h4,h5⟩:=lR he;obtain ⟨w,ew,rw'⟩:=r.get h2;have hl:=r.length;have hn:=iu;have fin:EP X pins σ Q w s:=⟨z,H,I,rw',q⟩;exact subscriptTail_builtinR (x:=w) pl.typeIs slot_tuple_getitem.lookup
  (getItem_tuple (j:=j) (Q:=fun r s'=>r=w/\EP X pins σ Q r s') pl (by omega) (by omega) (by rw [zai,<- hl]; exact h1) (by simpa using ew) ⟨rfl,fin⟩) hs
def ix_str:IxR X Dd:=by
 intro value slice pins s σ H x y v u Q I rx ry h hs;obtain ⟨z,i,c,rfl,rfl,hz,he,q⟩:=h;obtain ⟨t,rfl⟩:=rx;obtain ⟨t',rfl⟩:=ry;obtain ⟨j,h1,h2,h3,h4,h5⟩:=lR he;have hl:z.cps.toList.length=z.length:=by simp [Str.length]
 rw [hl] at h1 h4 h5;have hn:=iu;exact tail_any (typeIs_str s z t) slot_str_getitem.lookup (getItem_str (c:=c) (by
  have e1:decide (i < -(2 ^ 63:Int))=false:=zaA (by omega);have e2:decide (i >= 2 ^ 63)=false:=zaA (by omega);rw [e1,e2,Bool.or_false]) (by rw [h1]; simpa using h2) ⟨.str ⟨#[c]⟩,H,I.tok _,⟨_,rfl⟩,q⟩) hs
def rIx (K:PySem.W.Frag):R2:=fun x y H Q=>o7 K x y H Q\/Dc K x y H Q\/Dd x y H Q
def ix_seq:IxR X (rIx X.K):=ix_list.or (ix_tup.or ix_str)
def pp (its:List Value) (n j:Nat) (u:Value):Obj.mapSeq (·.setIfInBounds j u) { cls:=.type "list",data:=.seq its.toArray n }={ cls:=.type "list",data:=.seq (its.set j u).toArray n }:=by
 simp [Obj.mapSeq]
def Inv.lst {pins:List (Addr × Obj)} {σ:St} {H:Hp} {s:Shared} {p:Addr} {xs:List V} (I:Inv X pins σ H s) (h:H p=some (.lst xs)) :
  ∃ (its:List Value) (n:Nat),Vals xs its/\s.heap.get? p=some { cls:=.type "list",data:=.seq its.toArray n }/\xs.length<=sizeLine:=by
 obtain ⟨z,its,n,r,e⟩:=I.hok p _ h;exact ⟨its,n,r,e,z⟩
def Inv.lstUpd {pins:List (Addr × Obj)} {σ:St} {H:Hp} {s:Shared} {p:Addr} {xs ys:List V} {its its':List Value} {n n':Nat} {f:Obj->Obj} (I:Inv X pins σ H s) (h:H p=some (.lst xs))
  (ho:s.heap.get? p=some { cls:=.type "list",data:=.seq its.toArray n }) (hf:f { cls:=.type "list",data:=.seq its.toArray n }={ cls:=.type "list",data:=.seq its'.toArray n' }) (r:Vals ys its') (hz:ys.length<=sizeLine) (t:Nat) :
  Inv X pins σ (upd H p (.lst ys)) { s with heap:=s.heap.update p f,toks:=t }:=by
 have e:(s.heap.update p f).get? p=some { cls:=.type "list",data:=.seq its'.toArray n' }:=by
  rw [Heap.get?_update_self f ho (by rw [hf] <;> rfl),hf]
 refine I.write (x:=p) (e:=p) (by rw [h]; trivial) (.inl rfl) (fun b u hb q=>(Heap.get?_update_other _ _ (Ne.symm hb)).trans q) ⟨_,e⟩ ?_;exact ⟨hz,its',n',r,e⟩
def zq:V->V->V->Hp->(Hp->Prop)->Prop:=fun o i v H Q=>∃ p xs k j,o=.ref p/\i=.int k/\H p=some (.lst xs)/\ixN xs.length k=some j/\Q (upd H p (.lst (xs.set j v)))
def rN:ET X zq:=by
 intro pins s σ H o i v ov iv u Q I ro ri rv h;obtain ⟨p,xs,k,j,rfl,rfl,hp,hj,q⟩:=h;cases ro;obtain ⟨t,rfl⟩:=ri;obtain ⟨its,n,r,ho,hz⟩:=I.lst hp;obtain ⟨h1,h2,h3,h4⟩:=oD hj;have hl:=r.length;have hn:=iu;have I':Inv X pins σ (upd H p (.lst (xs.set j v))) { s with heap:=s.heap.update p (Obj.mapSeq (·.setIfInBounds j u)) } :=
  I.lstUpd hp ho (pp its n j u) (r.set rv j) (by rw [zaV]; exact hz) s.toks
 by_cases h0:0<=k
 ·have hk:k.toNat=j:=by
   rw [seqIndex_of h0 h4] at h1;exact zat h1
  exact PySem.W.ki_setAt ho h0 (by omega) (by rw [zai,<- hl]; exact h4) (by rw [hk]; exact ⟨_,I',q⟩)
 ·have hk:(k+(its.toArray.size:Int)).toNat=j:=by
   rw [seqIndex_neg (by omega) h3] at h1;rw [zai,<- hl];exact zat h1
  exact PySem.W.ki_setBack ho (by omega) (by rw [zai,<- hl]; exact h3) (by omega) (by rw [hk]; exact ⟨_,I',q⟩)
def ja (lo hi:Option Int) (n:Nat):(sliceBounds lo hi none n).1=((HT.sIx n 0 lo:Nat):Int)/\(sliceBounds lo hi none n).2.1=((HT.sIx n n hi:Nat):Int)/\(sliceBounds lo hi none n).2.2=1:=by
 refine ⟨?_,?_,rfl⟩
 ·cases lo with
  | none=>simp [sliceBounds,HT.sIx]
  | some i =>
   simp only [sliceBounds,HT.sIx,Option.getD_none,show (1:Int) > 0 by decide,if_true];by_cases h:i < 0
   ·simp only [h,if_true] <;> omega
   ·simp only [h,if_false] <;> omega
 ·cases hi with
  | none=>simp [sliceBounds,HT.sIx]
  | some i =>
   simp only [sliceBounds,HT.sIx,Option.getD_none,show (1:Int) > 0 by decide,if_true];by_cases h:i < 0
   ·simp only [h,if_true] <;> omega
   ·simp only [h,if_false] <;> omega
def mG (its:List Value) (lo hi:Option Int):slicePick its.toArray lo hi none=((its.drop (HT.sIx its.length 0 lo)).take (HT.sIx its.length its.length hi - HT.sIx its.length 0 lo)).toArray:=by
 obtain ⟨h1,h2,h3⟩:=ja lo hi its.toArray.size;unfold slicePick;rw [h1,h2,h3];simp only [sliceRange_one,pick_run,zai] <;> rfl
def Da (K:PySem.W.Frag):V->Option Int->Option Int->Hp->VK->Prop:=fun x lo hi H Q=>∃ a xs,x=.ref a/\SqL K H a xs/\∀ p,H p=none->Q (.ref p) (upd H p (.lst (h8 xs lo hi)))
def zR:SlR X (Da X.K):=by
 intro pins s σ H x v vl vu lo hi sl Q I rx hs pl pu h;obtain ⟨a,xs,rfl,hx,q⟩:=h;cases rx;obtain ⟨its,r,ht,hz⟩:=I.list hx;have hlen:=r.length;refine ⟨"list",_,slot_list_getitem.lookup,ht.isList.typeIs,?_⟩;refine wpAny_getItem_list_slice ht.isList hs pl pu .none (by simp) ?_ (by rw [zai] <;> omega);rw [mG,<- hlen];refine ⟨.ref s.heap.objs.size,_,I.laid (t':=s.toks) (o:=.lst (h8 xs lo hi)) (fun b ob q=>zaf _ q) (zav _) ?_,rfl,q _ (I.hok.fresh (zav _))⟩;exact ⟨zau (j4 xs lo hi) hz,_,0,(r.drop (HT.sIx xs.length 0 lo)).take (HT.sIx xs.length xs.length hi - HT.sIx xs.length 0 lo),zan _ rfl⟩
def nL:CallR X (.type "list") (fun xs H Q=>∃ p ys,xs=[.ref p]/\(SqL X.K H p ys\/SqT X.K H p ys)/\∀ l,H l=none->Q (.ref l) (upd H l (.lst ys))):=by
 intro pins s σ H xs us Q I r h;obtain ⟨p,ys,rfl,hq,q⟩:=h;obtain ⟨u,rfl,rx⟩:=da r;cases rx;have fin:∀ (its:List Value),Vals ys its->ys.length<=sizeLine->∀ (h':Heap) (c':Nat),(∀ b o',s.heap.get? b=some o'->h'.get? b=some o') ->
   h'.get? s.heap.objs.size=some { cls:=.type "list",dict:=none,data:=.seq its.toArray c',slots:=#[] }->EP X pins σ Q (.ref s.heap.objs.size) { s with heap:=h' }:=fun its r' hz h' c' kp e =>
  ⟨.ref s.heap.objs.size,_,I.laid (t':=s.toks) kp (zav _) (show ObjOk X.prog X.w _ h' _ (.lst ys) from ⟨hz,its,c',r',e⟩),rfl,q _ (I.hok.fresh (zav _))⟩
 rcases hq with hq | hq
 ·obtain ⟨its,r',pl,hz⟩:=I.list hq;have hlen:=r'.length;obtain ⟨o,ho,hc,n,hd⟩:=pl.isList;exact call_list_seq p (.inl rfl) ho hc hd (fun h' c' kp e=>fin its r' hz h' c' kp e) (by simp only [zai] <;> omega)
 ·obtain ⟨its,r',pl,hz⟩:=I.tuple hq;have hlen:=r'.length;obtain ⟨o,ho,hc,n,hd⟩:=pl;exact call_list_seq p (.inr rfl) ho hc hd (fun h' c' kp e=>fin its r' hz h' c' kp e) (by simp only [zai] <;> omega)
def mM:CallR X (.type "tuple") (fun xs H Q=>∃ p ys,xs=[.ref p]/\((SqL X.K H p ys/\∀ l,H l=none->Q (.ref l) (upd H l (.tup ys)))\/(SqT X.K H p ys/\Q (.ref p) H))):=by
 intro pins s σ H xs us Q I r h;obtain ⟨p,ys,rfl,h⟩:=h;obtain ⟨u,rfl,rx⟩:=da r;cases rx;rcases h with ⟨hq,q⟩ | ⟨hq,q⟩
 ·obtain ⟨its,r',pl,hz⟩:=I.list hq;have hlen:=r'.length;refine call_tuple_list pl.isList (fun h' kp=>?_) (by simp only [zai] <;> omega);have I1:Inv X pins σ H { s with heap:=h' }:=I.kept (t':=s.toks) kp;have I2:Inv X pins σ (upd H h'.objs.size (.tup ys)) { s with heap:=h'.push { cls:=.type "tuple",data:=.seq its.toArray } } :=
   I1.laid (t':=s.toks) (fun b o e=>zaf _ e) (zav _) (show ObjOk X.prog X.w _ _ _ (.tup ys) from ⟨hz,its,r',IsTupN.new _ _⟩)
  exact ⟨.ref h'.objs.size,_,I2,rfl,q _ (I1.hok.fresh (zav _))⟩
 ·obtain ⟨its,r',pl,hz⟩:=I.tuple hq;exact call_tuple_same pl ⟨.ref p,H,I,rfl,q⟩
def tyV (K:PySem.W.Frag) (T:String) (x:V) (H:Hp):Prop:=match x with
 | .str _=>T="str"
 | .int _=>T="int"
 | .ref p=>(T="list"/\∃ xs,SqL K H p xs)\/(T="tuple"/\∃ o,K.lookup p=some o/\o.cls=.type "tuple"/\o.dict=none) \/
   (T="dict"/\((∃ kvs,H p=some (.dK kvs))\/∃ kvs,H p=some (.dT kvs)))\/(T="set"/\∃ S n,H p=some (.set S n))
 | _=>False
def CQ {pins:List (Addr × Obj)} {σ:St} {H:Hp} {s:Shared} {T:String} {x:V} {v:Value} (I:Inv X pins σ H s) (r:RelV x v) (ty:tyV X.K T x H) :
  s.TypeIs v T/\∀ a,v=.ref a->∃ ob,s.heap.get? a=some ob/\ob.dict=none:=by
 cases x with
 | str z =>
  obtain ⟨t,rfl⟩:=r;cases (show T="str" from ty);exact ⟨typeIs_str s z t,fun _ e=>nomatch e⟩
 | int i =>
  obtain ⟨t,rfl⟩:=r;cases (show T="int" from ty);exact ⟨typeIs_int s i t,fun _ e=>nomatch e⟩
 | ref p =>
  cases r;rcases ty with ⟨rfl,xs,hq⟩ | ⟨rfl,o,hk,hc,hd⟩ | ⟨rfl,hk⟩ | ⟨rfl,S,n,hk⟩
  ·obtain ⟨its,_,pl,_⟩:=I.list hq;refine ⟨pl.isList.typeIs,fun a e=>?_⟩;cases e;obtain ⟨o,n,e,c,hd,_⟩:=pl;exact ⟨o,e,hd⟩
  ·refine ⟨⟨o,I.kIn p o hk,hc⟩,fun a e=>?_⟩;cases e;exact ⟨o,I.kIn _ o hk,hd⟩
  ·have z:∃ o,s.heap.get? p=some o/\o.ExactDict:=by
    rcases hk with ⟨kvs,hk⟩ | ⟨kvs,hk⟩
    ·obtain ⟨_,_,_,_,o,_,_,e,ex,_⟩:=I.hok p _ hk;exact ⟨o,e,ex⟩
    ·obtain ⟨_,_,_,_,o,_,_,e,ex,_⟩:=I.hok p _ hk;exact ⟨o,e,ex⟩
   obtain ⟨o,e,ex⟩:=z;refine ⟨⟨o,e,ex.1⟩,fun a e2=>?_⟩;cases e2;exact ⟨o,e,ex.2.1⟩
  ·obtain ⟨o,_,_,_,e,ex,_⟩:=I.hok p _ hk;refine ⟨⟨o,e,ex.1⟩,fun a e2=>?_⟩;cases e2;exact ⟨o,e,ex.2.1⟩
 | _=>exact False.elim ty
def tBM (K:PySem.W.Frag) (T:String) (r:V->List V->Hp->VK->Prop) (to:TE) (t:TA):TE:=fun σ H Q=>to σ H fun x H1=>tyV K T x H1/\t σ H1 fun xs H2=>r x xs H2 Q
variable {o e:Expr} {es:List Expr} {to:TE} {t:TA} {name:Str} {apos cpos:Pos} {T id:String} {r:V->List V->Hp->VK->Prop}
def pc (pa:PlainAttrs T) (slot:Slot T name id) (hty:typeOf (.builtin id)=pure (.type "method_descriptor")) (hm:MtR X id r) (ho:PE X o to) (ha:PA X (e :: es) t)
  (hbase:attributeBase o name X.env (eval o X.env)=eval o X.env:=by rfl)
  (hfew:((backTo cpos (starEach (e :: es) X.env)).all (fun x=>!x.1) && (backToKw cpos (keywordEach [] X.env)).all (fun x=>x.1.isSome)
   && decide ((e :: es).length+([]:List Keyword).length+(if ([]:List Keyword).isEmpty then 0 else 1) < 30))=true:=by rfl)
  (hline:(apos.endLine == cpos.line)=true:=by rfl) (hs:starEach (e :: es) X.env=(false,eval e X.env) :: starEach es X.env:=by rfl) (hplain:(backTo cpos (starEach es X.env)).any (·.1)=false:=by rfl) :
  PE X (.Call (.Attribute o name apos) (e :: es) [] cpos) (tBM X.K T r to t):=by
 intro pins s σ H Q I h;refine wpAny_Call_method_late hbase hfew hline rfl (thn (ho pins s σ H _ I h) fun v s1 ⟨x,H1,I1,r1,ty,q1⟩=>?_);obtain ⟨h1,h2⟩:=CQ I1 r1 ty;refine ⟨T,id,pa,slot,hty,h1,h2,?_⟩;have hA:=ha cpos pins s1 σ H1 _ I1 q1;rw [hs] at hA ⊢;refine Calls.callWith_builtin (by show (false || (backTo cpos (starEach es X.env)).any (·.1))=false; rw [hplain] <;> rfl) (Calls.evalArgs_plain ?_);exact thn hA fun us s2 ⟨vs,H2,I2,r2,q2⟩=>hm pins s2 σ H2 x vs v us Q I2 r1 r2 q2
end
def MtM (X:Cx) (id:String) (r:V->List V->Hp->VK->Prop):Prop :=
 ∀ (pins:List (Addr × Obj)) (s:Shared) (σ:St) (H:Hp) (x:V) (xs:List V) (v:Value) (us:List Value) (Q:VK),Inv X pins σ H s->RelV x v->Vals xs us->r x xs H Q ->
  wpAny (model X.prog X.w) X.A (call (.builtin id) (v :: us)) (EP X pins σ Q) X.xe s
def Vals.one:∀ {x:V} {us:List Value},Vals [x] us->∃ u,us=[u]/\RelV x u
 | _,_,.cons r .nil=>⟨_,rfl,r⟩
def Vals.two {x y:V} {us:List Value} (h:Vals [x,y] us):∃ u v,us=[u,v]/\RelV x u/\RelV y v:=by
 cases h with
 | cons r t =>
  cases t with
  | cons q n =>
   cases n;exact ⟨_,_,rfl,r,q⟩
def Vals.eraseIdx:∀ {xs:List V} {us:List Value} (i:Nat),Vals xs us->Vals (xs.eraseIdx i) (us.eraseIdx i)
 | _,_,_,.nil=>.nil
 | _,_,0,.cons _ t=>t
 | _,_,i+1,.cons r t=>.cons r (Vals.eraseIdx i t)
def l9 {α:Type}:∀ (l:List α) (i:Nat),(l.eraseIdx i).length<=l.length
 | [],_=>zav _
 | _ :: _,0=>Nat.le_succ _
 | _ :: r,i+1=>Nat.succ_le_succ (l9 r i)
section
variable {X:Cx} {pins:List (Addr × Obj)} {σ:St} {H:Hp} {s:Shared} {l b:Addr} {xs ys zs:List V}
def Inv.lset {its its':List Value} {n:Nat} {f:Array Value->Array Value} {t':Nat} (I:Inv X pins σ H s) (hH:H l=some (.lst xs))
  (e:s.heap.get? l=some { cls:=.type "list",data:=.seq its.toArray n }) (hf:f its.toArray=its'.toArray) (hv:Vals ys its') (hz:ys.length<=sizeLine) :
  Inv X pins σ (upd H l (.lst ys)) { s with heap:=s.heap.update l (Obj.mapSeq f),toks:=t' }:=by
 have q:=PySem.IsL.update e f;rw [hf] at q;refine I.write (x:=l) (e:=l) (by rw [hH]; exact trivial) (.inl rfl) (fun b' u hb hu=>(Heap.get?_update_other s.heap (Obj.mapSeq f) (Ne.symm hb)).trans hu) ⟨_,q⟩ ?_;exact ⟨hz,its',_,hv,q⟩
def Inv.lnew {its:List Value} {t':Nat} (I:Inv X pins σ H s) (hv:Vals ys its) (hz:ys.length<=sizeLine) :
  Inv X pins σ (upd H s.heap.objs.size (.lst ys)) { s with heap:=s.heap.push { cls:=.type "list",data:=.seq its.toArray },toks:=t' } :=
 I.laid (fun _ _ q=>zaf _ q) (zav _) ⟨hz,its,0,hv,zan _ rfl⟩
def Inv.fresh (I:Inv X pins σ H s):H s.heap.objs.size=none:=I.hok.fresh (zav _)
def Inv.lstM (I:Inv X pins σ H s) (hH:H l=some (.lst xs)):xs.length<=sizeLine/\∃ (its:List Value) (n:Nat),Vals xs its/\xs.length=its.length/\s.heap.get? l=some { cls:=.type "list",data:=.seq its.toArray n }:=by
 obtain ⟨z,its,n,r,e⟩:=I.hok l _ hH;exact ⟨z,its,n,r,r.length,e⟩
end
section
variable {X:Cx}
def oo:V->List V->Hp->VK->Prop:=fun x vs H Q=>∃ l xs y,x=.ref l/\vs=[y]/\H l=some (.lst xs)/\xs.length < sizeLine/\Q .non (upd H l (.lst (xs++[y])))
def l7:MtM X "list.append" oo:=by
 intro pins s σ H x vs v us Q I rx rv h;obtain ⟨l,xs,y,rfl,rfl,hH,hz,q⟩:=h;cases rx;obtain ⟨u,rfl,ru⟩:=rv.one;obtain ⟨z,its,n,r,hl,e⟩:=I.lstM hH;refine call_meets F.slot_list_append ⟨_,e,rfl⟩ F.entry_list_append (F.args_list_append_2 _ _) (PySem.list_append l its.toArray n u (by rw [zai]; omega)) ⟨e,?_⟩;refine ⟨.non,_,I.lset (its':=its++[u]) hH e (by simp) (r.append (.cons ru .nil)) ?_,rfl,q⟩;rw [zae,List.length_singleton];omega
def qi:V->List V->Hp->VK->Prop:=fun x vs H Q=>∃ l xs i k y,x=.ref l/\vs=[.int i]/\H l=some (.lst xs)/\-(2 ^ 63)<=i/\i < 2 ^ 63/\seqIndex? i xs.length=some k/\xs[k]?=some y/\Q y (upd H l (.lst (xs.eraseIdx k)))
def rX:MtM X "list.pop" qi:=by
 intro pins s σ H x vs v us Q I rx rv h;obtain ⟨l,xs,i,k,y,rfl,rfl,hH,h1,h2,hk,hy,q⟩:=h;cases rx;obtain ⟨u,rfl,ru⟩:=rv.one;obtain ⟨t,rfl⟩:=ru;obtain ⟨z,its,n,r,hl,e⟩:=I.lstM hH;obtain ⟨w,hw,rw'⟩:=r.get hy;refine call_meets F.slot_list_pop ⟨_,e,rfl⟩ F.entry_list_pop (F.args_list_pop_2 _ _)
  (MeetsSeq.list_pop_at l its.toArray n i t k w (fitsIndex_both h1 h2) (by rw [zai,<- hl]; exact hk) (by rw [<- Array.getElem?_toList]; exact hw) (by rw [zai]; omega)) ⟨e,?_⟩
 refine ⟨y,_,I.lset (its':=its.eraseIdx k) hH e ?_ (r.eraseIdx k) ?_,rw',q⟩
 ·show its.toArray.eraseIdxIfInBounds k=(its.eraseIdx k).toArray;rw [List.eraseIdxIfInBounds_toArray]
 ·have:=l9 xs k;omega
end
section
variable {prog:Program} {w:World} {A:Around} {E:Value->Shared->Prop} {s:Shared}
end
section
variable {X:Cx}
end
end L2
namespace Att
open PySem PySem.W PySem.Calls PyProof.Rows
def k4 {P:Params} {h:Heap}:∀ (ns:List Int) (vs:List Value),WellAll P h vs (ns.map WData.int)->IntsAre vs ns:=by
 intro ns
 induction ns with
 | nil =>
  intro vs w;rw [List.map_nil] at w;cases w;exact .nil
 | cons n ns ih =>
  intro vs w;rw [zar] at w;cases w with
  | cons a b =>
   cases a;exact .cons _ _ (ih _ b)
def qg {l:OpenLaw} {n:Nat} (hn:l.most=some n) {P:Params} {h:Heap} {args:List WData} {bH:List Value}
  (hpre:l.row.toRowW.claim.pre args=true) (hwl:WellAll P h bH args) :
  ∃ a vs ns,bH=[Value.ref a]/\args=[WData.list (ns.map WData.int)]/\h.get? a=some { cls:=.type "list",data:=.seq vs.toArray }/\IntsAre vs ns/\ns.length<=n:=by
 have hsh:WShape.hasAll [] args [.list .int]=true:=(pre_splitW hpre).1;have hc:l.pre.holds [] { args:=args }=true:=(pre_splitW hpre).2;obtain ⟨d,r,rfl,h1,h2⟩:=hasAllW_cons hsh;obtain rfl:=hasAllW_nil h2;obtain ⟨xs,rfl,h3⟩:=hasW_list h1;obtain ⟨ns,rfl⟩:=items_int h3;have hlen:ns.length<=n:=by
  unfold OpenLaw.pre at hc;have h4:(WTm.not (.lt (.lit (.int (n:Int))) (.len (.arg 0)))).holds [] { args:=[.list (ns.map .int)] }=true:=by
   have h4:=(holds_andW hc).1;rw [hn] at h4;exact h4
  have h5:=condW_of h4 (w_not (w_lt w_lit (w_len_list (w_arg rfl))));rw [zad] at h5;refine Nat.le_of_not_lt fun q=>?_;have q':(n:Int) < ((ns.length:Nat):Int):=by omega
  first
   | (rw [zaB q'] at h5; exact absurd h5 (by decide))
   | (simp at h5; omega)
 cases hwl with
 | cons w1 w2 =>
  cases w2;cases w1 with
  | list ho hall=>exact ⟨_,_,ns,rfl,rfl,ho,k4 ns _ hall,hlen⟩
def qj (l:OpenLaw) (args:List WData):l.row.toRowW.claim.post args (.bool true) args=true :=
 postW_of (r:=l.row.toRowW) (X:=(true == true))
  (show WShape.has [] (.bool true) .bool=true by first | rfl | decide | simp [WShape.has,WShape.arms,WShape.armsAll])
  (show (WTm.eq .res (.lit (.bool true))).value [] { args:=args,res:=some (.bool true),after:=args }=some (.bool (true == true)) from w_eq_bool (w_res rfl) w_lit) rfl
def attach_call {l:OpenLaw} {n:Nat} {q:Program} {loose:List Str} {XP:(Str->Option Value)->Heap->Prop} {YP:World->Heap->Prop} {d:DefRec}
  (hn:l.most=some n) (hdf:d.params.defaults=[])
  (call:∀ (w:World) (s₀ s₁:Shared) (mg mb:Str->Option Value) (fa:Addr) (o:Obj) (pm cd doc:Value) (a:Addr) (vs:List Value) (ns:List Int),
   Ground q loose [] XP w s₀ mg mb s₁.heap->YP w s₁.heap ->
   s₁.heap.get? fa=some o->o.data=.func (docDef d.name d.params d.body d.scope pm cd doc)->s₁.heap.CodeRec cd d.name->mg d.name=some (.ref fa) ->
   s₁.heap.get? a=some { cls:=.type "list",data:=.seq vs.toArray }->IntsAre vs ns->ns.length<=n->s₁.gens=#[] ->
   codeAny (model l.prog w) callerA (.call (.ref fa) ⟨[.ref a],[]⟩) (fun r s'=>r=.ok (.ret (.bool true))/\OldK s₁.heap s'.heap/\s'.os=s₁.os/\AllBare s'.gens) s₁) :
  WalkO q loose XP YP l.row.toRowW d [] (fun f vs=>PySem.call f vs):=by
 intro w s₀ s₁ mg mb G Y fa o pm cd doc dV kV ho hd hcd hD hmg hg args bH as hpre hlay hrd hwl hlo;obtain rfl:dV=.none:=Dflts.none hD hdf;obtain rfl:kV=.none:=Dflts.noKw hD;obtain ⟨a,vs,ns,rfl,rfl,hobj,hints,hlen⟩:=qg hn hpre hwl;refine enter_call (codeAny_mono (call w s₀ s₁ mg mb fa o pm cd doc a vs ns G Y ho (fd_plain hd) hcd hmg hobj hints hlen hg) fun r s' hq=>?_);obtain ⟨rfl,h2,h3,h4⟩:=hq;exact ⟨.inl ⟨.bool true,.bool true,[],rfl,fun _=>rfl,.bool true,qj l _,fun _=>⟨List.Pairwise.nil,fun _ hm=>(nomatch hm)⟩⟩,h2,h3,h4⟩
section
variable {prog:Program} {w:World} {A:Around} {E:Value->Shared->Prop} {s:Shared} {K:Frag}
end
end Att
namespace L2
open PySem PySem.Spec PyProof.Rows
def lY:∀ {vs:List Value} {ns:List Int},IntsAre vs ns->Vals (ns.map V.int) vs
 | _,_,.nil=>.nil
 | _,_,.cons n t h=>.cons ⟨t,rfl⟩ (lY h)
def sW (H:Hp):Prop:=∀ b,H b=none\/∃ o xs,H b=some (.frz o (.lst xs))
def r9 {P:Program} {w:World} {K:PySem.W.Frag} {mg mb:Str->Option Value} {CX:CXT} {k:Nat} {fa a:Addr} {fd:FuncData} {x:Str} {sp:Sp} {s₁:Shared} {vs:List Value} {ns:List Int}
  (KX:K.In s₁.heap) (hns:s₁.heap.Ns mainGlobals mg) (hb:s₁.heap.Ns builtinsNs mb) (hbb:∀ x:Str,x≠"__name__"->mb x=bootBuiltins x) (hlim:s₁.heap.NoLimit) (hmods:∃ mm,s₁.heap.Ns sysModules mm) (hg:s₁.gens=#[])
  (ha:s₁.heap.get? a=some { cls:=.type "list",data:=.seq vs.toArray }) (hi:IntsAre vs ns) (hl:ns.length<=sizeLine) (hr:Room k callerA)
  (F:∀ base:Heap,K.In base->base.Ns mainGlobals mg->FnOk P w K mg base CX k fa fd [x] sp) (hbind:∀ (s:Shared) (u:Value),BindsTo s fd ⟨[u],[]⟩ [(x,u)])
  (hsp:∀ H:Hp,sW H->SqL K H a (ns.map V.int)->sp [.ref a] H (fun v _=>v=.bl true) fun _ _ _=>False)
  (hCX:∀ H e s',CX [] H s₁ (fun _ _ _=>False) e s'->False) :
  codeAny (model P w) callerA (.call (.ref fa) ⟨[.ref a],[]⟩) (fun r s'=>r=.ok (.ret (.bool true))/\OldK s₁.heap s'.heap/\s'.os=s₁.os/\AllBare s'.gens) s₁:=by
 have rv:=lY hi;have lenV:=hi.length;have core:∀ H:Hp,sW H->SqL K H a (ns.map V.int)->HOk P w H s₁.heap->(∀ b,H b≠none->b=a)->(H a≠none->K.lookup a=none) ->
   codeAny (model P w) callerA (.call (.ref fa) ⟨[.ref a],[]⟩) (fun r s'=>r=.ok (.ret (.bool true))/\OldK s₁.heap s'.heap/\s'.os=s₁.os/\AllBare s'.gens) s₁:=by
  intro H hO hS hok hA hK;have base_of:∀ {b:Addr} {o:Obj},s₁.heap.get? b=some o->H b=none->(iI s₁.heap H).get? b=some o:=fun e n=>sv e n;have noA:∀ {b:Addr} {o:Obj} {es:Array DictEntry} {ep:Nat},s₁.heap.get? b=some o->o.data=.dict es ep->H b=none:=fun {b o es ep} e d=>by
   cases q:H b with
   | none=>rfl
   | some u =>
    have e':b=a:=hA b (by rw [q]; simp);subst e';rw [ha] at e; cases e;have d':Data.seq vs.toArray _=Data.dict es ep:=d;cases d'
  have nsK:∀ {b:Addr} {m:Str->Option Value},s₁.heap.Ns b m->(iI s₁.heap H).Ns b m:=fun {b m} ⟨o,es,ep,e,d,r⟩=>⟨o,es,ep,base_of e (noA e d),d,r⟩;have hKb:K.In (iI s₁.heap H):=fun b o e=>base_of (KX b o e) (by
   cases q:H b with
   | none=>rfl
   | some u =>
    have e':b=a:=hA b (by rw [q]; simp);subst e';rw [hK (by rw [q]; simp)] at e; cases e)
  have hM:Mod K mg (iI s₁.heap H):=⟨hKb,nsK hns,⟨mb,nsK hb,hbb⟩,let ⟨mc,h1,h2⟩:=hlim; ⟨mc,nsK h1,h2⟩,let ⟨mm,h1⟩:=hmods; ⟨mm,nsK h1⟩⟩;have e0:Env0 P w K mg (iI s₁.heap H) callerA [] s₁ H:=⟨rfl,hM,fun b o e=>Ag e,Nat.le_of_eq (qH _ _),trivial,fun b hb=>absurd (show b∈([]:List Addr) from hb) (by simp),hok,.of_eq hg⟩;refine codeAny_mono ((F _ hKb (nsK hns)).run callerA [] s₁ H ⟨[.ref a],[]⟩ [.ref a] [.ref a] _ _ hr e0 (hbind s₁ (.ref a)) (.cons rfl .nil) (hsp H hO hS)) fun r s' h=>?_;cases r with
  | error e=>exact (hCX H e s' h).elim
  | ok fl =>
   cases fl with
   | next=>exact False.elim h
   | brk=>exact False.elim h
   | cont=>exact False.elim h
   | ret u =>
    obtain ⟨v,H',os,bare,un,hok',r',q⟩:=h;have q':v=.bl true:=q;subst q';obtain rfl:u=Value.bool true:=r';refine ⟨rfl,OldK.of_keep fun b o e=>?_,os,bare⟩;cases q:H b with
    | none=>exact un.keep b o e q (by intro z; exact absurd (show b∈([]:List Addr) from z) (by simp)) (by simp)
    | some u =>
     rcases hO b with z | ⟨ob,xs,z⟩
     ·rw [q] at z; cases z
     ·have z2:=un.frzs b ob _ z;obtain ⟨e1,_⟩:=hok b _ z;obtain ⟨e2,_⟩:=hok' b _ z2;rw [e] at e1; cases e1;exact e2
 cases hk:K.lookup a with
 | some o =>
  have e:=KX a o hk;rw [ha] at e;cases e;refine core (fun _=>none) (fun _=>.inl rfl) (.inr ⟨_,vs.toArray,_,hk,rfl,rfl,rfl,by rw [zai,lenV]; exact hl,by simpa using rv⟩) (fun b u z=>by have z':(none:Option HO)=some u:=z; cases z') (fun b z=>absurd rfl z) fun z=>absurd rfl z
 | none =>
  refine core (fun b=>if b=a then some (.frz { cls:=.type "list",data:=.seq vs.toArray } (.lst (ns.map V.int))) else none) (fun b=>?_) (.inl (.inr ⟨{ cls:=.type "list",data:=.seq vs.toArray },if_pos rfl⟩)) (fun b u z=>?_) (fun b z=>?_) fun _=>hk
  ·by_cases hb:b=a
   ·exact .inr ⟨_,_,if_pos hb⟩
   ·exact .inl (if_neg hb)
  ·by_cases hb:b=a
   ·have z':=(if_pos hb).symm.trans z;cases z';subst hb;exact ⟨ha,by rw [zad]; exact hl,vs,_,rv,ha⟩
   ·have z':=(if_neg hb).symm.trans z;cases z'
  ·by_cases hb:b=a
   ·exact hb
   ·exact absurd (if_neg hb) z
def walk_of {l:PySem.W.OpenLaw} {n k:Nat} {q:Program} {loose:List Str} {XP:(Str->Option Value)->Heap->Prop} {YP:World->Heap->Prop} {d:DefRec} {K:Params->PySem.W.Frag} {CX:World->CXT} {sp:World->Sp} {x:Str}
  (hn:l.most=some n) (hn2:n<=sizeLine) (hdf:d.params.defaults=[]) (hr:Room k callerA)
  (hq:importsNone q=true) (hY:∀ (w:World) (h:Heap),YP w h->(K w.params).In h)
  (F:∀ (w:World) (mg:Str->Option Value) (fa:Addr) (h:Heap),(K w.params).In h->h.Ns mainGlobals mg->mg d.name=some (.ref fa) ->
   ∃ fd:FuncData,(∀ (s:Shared) (u:Value),BindsTo s fd ⟨[u],[]⟩ [(x,u)]) /\
    ∀ base:Heap,(K w.params).In base->base.Ns mainGlobals mg->FnOk l.prog w (K w.params) mg base (CX w) k fa fd [x] (sp w))
  (hsp:∀ (w:World) (H:Hp) (a:Addr) (ns:List Int),ns.length<=n->sW H->SqL (K w.params) H a (ns.map V.int)->sp w [.ref a] H (fun v _=>v=.bl true) fun _ _ _=>False)
  (hCX:∀ (w:World) (H:Hp) (s:Shared) (e:Value) (s':Shared),CX w [] H s (fun _ _ _=>False) e s'->False) :
  PySem.W.WalkO q loose XP YP l.row.toRowW d [] (fun f vs=>PySem.call f vs):=by
 refine Att.attach_call hn hdf fun w s₀ s₁ mg mb fa o pm cd doc a vs ns G Y ho hd hcd hmg hobj hints hlen hg=>?_;have KX:=hY w _ Y;obtain ⟨fd,hb,hF⟩:=F w mg fa _ KX G.T.g hmg;exact r9 KX G.T.g G.T.b G.T.builtins G.T.nolimit (let ⟨mm,hm,_⟩:=(G.T.seer hq).mods; ⟨mm,hm⟩) hg hobj hints (zau hlen hn2) hr hF hb (fun H hO hS=>hsp w H a ns hlen hO hS) fun H e s'=>hCX w H s₁ e s'
def dD (s:Stmt):Arguments:=match s with
 | .FunctionDef _ a _ _ _ _ _ _ _ _=>a
 | _=>{ posonlyargs:=[],args:=[],vararg:=none,kwonlyargs:=[],kw_defaults:=[],kwarg:=none,defaults:=[] }
def cH (s:Stmt):List Stmt:=match s with
 | .FunctionDef _ _ b _ _ _ _ _ _ _=>b
 | _=>[]
def ap (s:Stmt):Scope:=match s with
 | .FunctionDef _ _ _ _ _ _ sc _ _ _=>sc
 | _=>{ kind:=.function,names:=[],isGenerator:=false,isCoroutine:=false }
abbrev CX0:CXT:=fun _ _ _ _ _ _=>False
abbrev E0:XK:=fun _ _ _=>False
def Ff {X:Cx}:nP CX0 X E0:=fun _ _ _ _ _ _ _ h=>h.elim
structure Fun (K:PySem.W.Frag) (x qual:Str) (st:Stmt) (f:Addr) (fd:FuncData):Prop where
 ex:∃ (oc:Value) (od:Option Addr) (kV doc pm:Value) (an:Option Addr) (cdv ct:Value) (osl:Array (Option Value)),
  fd=PySem.W.fnOf x qual (dD st) (cH st) (ap st) .none kV doc pm an cdv ct/\K.lookup f=some ⟨oc,od,.func fd,osl⟩/\PySem.W.codeIn K cdv qual=true
 kp:PySem.W.keepIn K (.ref f)=true
section
variable {P:Program} {w:World} {K:PySem.W.Frag} {mg:Str->Option Value} {base:Heap}
def Fun.ok {x qual:Str} {st:Stmt} {f:Addr} {fd:FuncData} {N ps:List Str} {k:Nat} {sp:Sp} (F:Fun K x qual st f fd) (S:FnScope N ps (ap st)) (len:∀ vs H Q E,sp vs H Q E->vs.length=ps.length)
  (hbody:∀ (cdv:Value) (A:Around) (outer:List Env) (s:Shared) (H:Hp) (vs:List V) (Q:VK) (E:XK),Room k (A.deeper (envOfC qual (ap st) s.heap.objs.size f cdv))->sp vs H Q E ->
   ∃ t,PSs (kw CX0 P w K mg base N qual (ap st) f cdv A outer s H E).nox (cH st) t/\t { nx:=fun _ H'=>Q .non H',rt:=Q } (du N vs) H):FnOk P w K mg base CX0 (k+1) f fd ps sp:=by
 obtain ⟨oc,od,kV,doc,pm,an,cdv,ct,osl,rfl,lk,hcd⟩:=F.ex;refine Fw lk hcd S len fun A outer s H vs Q E hr hsp=>?_;obtain ⟨t,h,q⟩:=hbody cdv A outer s H vs Q E hr hsp;exact ⟨t,h.nox,q⟩
def Fun.binds {x qual:Str} {st:Stmt} {f:Addr} {fd:FuncData} {ps:List Str} (F:Fun K x qual st f fd)
  (h:∀ (kV doc pm:Value) (an:Option Addr) (cdv ct:Value) (us:List Value),us.length=ps.length->bindArgs (PySem.W.fnOf x qual (dD st) (cH st) (ap st) .none kV doc pm an cdv ct) ⟨us,[]⟩=pure (ps.zip us)):Binds K fd ps []:=by
 obtain ⟨oc,od,kV,doc,pm,an,cdv,ct,osl,rfl,lk,hcd⟩:=F.ex;exact .all (h kV doc pm an cdv ct)
def nB {x qual:Str} {st:Stmt} {f:Addr} {oc:Value} {od an:Option Addr} {osl:Array (Option Value)} {kV doc pm cdv ct:Value} (l:K.lookup f=some ⟨oc,od,.func (PySem.W.fnOf x qual (dD st) (cH st) (ap st) .none kV doc pm an cdv ct),osl⟩)
  (c:PySem.W.codeIn K cdv qual=true) (k:PySem.W.keepIn K (.ref f)=true):Fun K x qual st f (PySem.W.fnOf x qual (dD st) (cH st) (ap st) .none kV doc pm an cdv ct):=⟨⟨oc,od,kV,doc,pm,an,cdv,ct,osl,rfl,l,c⟩,k⟩
end
section
variable {X:Cx}
end
def ES (H H':Hp):Prop:=∀ b o,H b=some o->H' b=some o
section
variable {κ:Type} [DecidableEq κ]
def KV.length {kvs:List (κ × V)} {vs:List (κ × Value)} (r:KV kvs vs):kvs.length=vs.length:=Paired.length r
end
def Fj {P:Program} {w:World} {k:Key} {u:Value} (r:RelV (kV k) u):(bU P w).is k u=true:=by
 cases k with
 | inl i=>obtain ⟨t,e⟩:=(show ∃ t,u=Value.int i t from r); subst e; exact oe P w i t
 | inr x=>obtain ⟨t,e⟩:=(show ∃ t,u=Value.str x t from r); subst e; exact n9 P w x t
def me {P:Program} {w:World}:∀ {ks:List Key} {us:List Value},Vals (ks.map kV) us->ItemsAre (bU P w) ks us
 | [],_,r=>by rw [List.map_nil] at r; cases r; exact .nil
 | k :: ks,_,r=>by
  rw [zar] at r;cases r with
  | cons h t=>exact .cons (Fj h) (me t)
abbrev KT (H:Hp):List (List Key × V)->List (List Key × Addr × Value)->Prop:=Paired fun p q=>p.1=q.1/\H q.2.1=some (.tup (p.1.map kV))/\RelV p.2 q.2.2
section
variable {P:Program} {w:World} {H:Hp} {h:Heap} {a:Addr}
def zp {u:HO} (ok:HOk P w H h) (e:Rd H a u):ObjOk P w H h a u:=e.ok ok
def FU {kvs:List (Key × V)} (ok:HOk P w H h) (e:Rd H a (.dK kvs)):kvs.length<=sizeLine/\(a == sysModules)=false/\∃ vs,KV kvs vs/\h.DictOf (bU P w) a vs :=
 show ObjOk P w H h a (.dK kvs) from zp ok e
def pP {kvs:List (Key × V)} (ok:HOk P w H h) (e:H a=some (.dK kvs)):kvs.length<=sizeLine/\(a == sysModules)=false/\∃ vs,KV kvs vs/\h.DictOf (bU P w) a vs:=FU ok (.inl e)
def DK {ks:List Key} (ok:HOk P w H h) (e:H a=some (.tup (ks.map kV))):(tupleKind (bU P w)).is h ks a:=by
 obtain ⟨_,its,r,o,h1,h2,n,h3⟩:=(show ObjOk P w H h a (.tup (ks.map kV)) from ok a _ e);exact ⟨o,its.toArray,n,h1,h2,h3.1,by simpa using me r⟩
def FT {kvs:List (List Key × V)} (ok:HOk P w H h) (e:Rd H a (.dT kvs)):kvs.length<=sizeLine/\(a == sysModules)=false /\
  ∃ xs,KT H kvs xs/\h.DictOfH (tupleKind (bU P w)) a xs:=by
 obtain ⟨z,y,xs,r,o,es,ep,h1,h2,h3,h4,h5⟩:=(show ObjOk P w H h a (.dT kvs) from zp ok e);refine ⟨z,y,xs,r,o,es,ep,h1,h2,h3,h4,fun x hx=>?_,h5⟩;have all:∀ {l:List (List Key × V)} {m:List (List Key × Addr × Value)},KT H l m->∀ x∈m,(tupleKind (bU P w)).is h x.1 x.2.1:=by
  intro l m q
  induction q with
  | nil=>intro x hx; exact nomatch hx
  | @cons p q ps qs hq t ih =>
   intro x hx;rcases zay.mp hx with e | hx
   ·subst e;exact DK ok (by rw [<- hq.1]; exact hq.2.1)
   ·exact ih x hx
 exact all r x hx
def zK {kvs:List (List Key × V)} (ok:HOk P w H h) (e:H a=some (.dT kvs)):kvs.length<=sizeLine/\(a == sysModules)=false /\
  ∃ xs,KT H kvs xs/\h.DictOfH (tupleKind (bU P w)) a xs:=FT ok (.inl e)
end
section
variable {X:Cx} {pins:List (Addr × Obj)} {σ:St} {H:Hp} {s:Shared} {a:Addr} {y v:V} {u r:Value} {o:Option V} {A:Around} {E:Value->Shared->Prop}
def Inv.big (I:Inv X pins σ H s):sysModules < s.heap.objs.size:=by
 have h:mainGlobals < s.heap.objs.size:=(I.mod.glob.keeps I.bk).lt;exact Nat.lt_trans (by decide) h
end
section
variable {X:Cx} {pins:List (Addr × Obj)} {σ:St} {H:Hp} {s:Shared} {a:Addr} {kvs:List (Key × V)} {k:Key} {u:Value} {A:Around} {E:Value->Shared->Prop}
end
section
variable {X:Cx} {o i e value:Expr} {pos pos' tpos:Pos} {td ty tv:TE}
end
def sM {P:Program} {w:World} {H:Hp} (h:Heap) (hb:sysModules < h.objs.size):ObjOk P w H (h.push { cls:=.type "dict",data:=.dict #[] }) h.objs.size (.dK []) :=
 ⟨Nat.zero_le _,beq_eq_false_iff_ne.mpr (Ne.symm (zaw hb)),[],.nil,Heap.DictOf.new h⟩
def C2:TE:=fun _ H Q=>∀ p,H p=none->Q (.ref p) (upd H p (.dK []))
section
variable {X:Cx} {pos:Pos}
def pe_dnewK:PE X (.Dict [] [] pos) C2:=fun pins s σ H Q I h =>
 wpAny_Dict_empty ⟨.ref s.heap.objs.size,_,I.laid (a:=s.heap.objs.size) (o:=.dK []) (t':=s.toks) (fun _ _ q=>zaf _ q) (zav _) (sM s.heap I.big),rfl,h _ (I.hok.fresh (zav _))⟩
end
section
variable {X:Cx} {pins:List (Addr × Obj)} {σ:St} {H:Hp} {s:Shared} {a:Addr} {y d:V} {u r:Value} {o:Option V} {A:Around} {E:Value->Shared->Prop}
end
section
variable {X:Cx} {o e f:Expr} {apos cpos:Pos} {td ty tx:TE}
end
section
variable {X:Cx} {pins:List (Addr × Obj)} {σ:St} {H:Hp} {s:Shared} {a:Addr} {kvs:List (Key × V)} {A:Around} {E:Value->Shared->Prop}
end
section
variable {X:Cx} {pins:List (Addr × Obj)} {σ:St} {H:Hp} {s:Shared} {a:Addr} {y:V} {u:Value} {A:Around} {E:Value->Shared->Prop}
end
section
variable {X:Cx}
end
section
variable {κ:Type} [DecidableEq κ]
end
end L2
set_option maxHeartbeats 4000000
namespace L2
open PySem PySem.Spec PyProof.Rows
def AE {α β:Type} {l:List α} {f:α->β->Sem (ForInStep β)} {g:β->α->β} (h:∀ x∈l,∀ c,f x c=pure (.yield (g c x))):∀ c,forIn l c f=pure (l.foldl g c):=by
 induction l with
 | nil=>intro c; rfl
 | cons x l ih =>
  intro c;rw [List.forIn_cons,h x zaq,pure_bind];exact ih (fun y hy=>h y (zaj _ hy)) (g c x)
def dP (env:Env) (acc:List (Str × Addr)) (x:Str × NameKind):List (Str × Addr) :=
 if x.2 == NameKind.free then (x.1,(env.cells.lookup x.1).getD 0) :: acc else acc
def dh (env:Env) (names:List (Str × NameKind)):List (Str × Addr):=names.foldl (dP env) []
def pR {scope:Scope} {env:Env} (h:∀ y∈scope.names,y.2=.free->∃ c,env.cells.lookup y.1=some c):closureFor scope env=pure (dh env scope.names):=by
 simp only [closureFor];rw [AE (g:=dP env) (fun x hx c=>by
  obtain ⟨n,kind⟩:=x;by_cases hk:kind=.free
  ·obtain ⟨a,e⟩:=h _ hx hk;subst hk;have e':env.cells.lookup n=some a:=e;simp [cellOf,dP,e']
  ·have hb:(kind == NameKind.free)=false:=by simpa using hk
   simp [dP,hb])]
 rfl
def lm {env:Env}:∀ (names:List (Str × NameKind)) (acc:List (Str × Addr)) (p:Str × Addr),
  p∈names.foldl (dP env) acc->p∈acc\/((p.1,NameKind.free)∈names/\p.2=(env.cells.lookup p.1).getD 0)
 | [],_,_,h=>.inl h
 | (n,k) :: r,acc,p,h=>by
  rw [List.foldl_cons] at h;rcases lm r _ p h with q | ⟨q,e⟩
  ·unfold dP at q;by_cases hk:(k == NameKind.free)=true
   ·rw [if_pos hk] at q;rcases zay.mp q with z | z
    ·subst z;have hk':k=NameKind.free:=by simpa using hk
     subst hk';exact .inr ⟨zaq,rfl⟩
    ·exact .inl z
   ·rw [if_neg hk] at q;exact .inl q
  ·exact .inr ⟨zaj _ q,e⟩
def j5 {env:Env}:∀ (names:List (Str × NameKind)) (acc:List (Str × Addr)) (p:Str × Addr),p∈acc->p∈names.foldl (dP env) acc
 | [],_,_,h=>h
 | x :: r,acc,p,h=>by
  rw [List.foldl_cons];refine j5 r _ p ?_;unfold dP;split
  ·exact zaj _ h
  ·exact h
def lp {env:Env} {n:Str}:∀ (names:List (Str × NameKind)) (acc:List (Str × Addr)),(n,NameKind.free)∈names->∃ c,(n,c)∈names.foldl (dP env) acc
 | (m,k) :: r,acc,h=>by
  rw [List.foldl_cons];rcases zay.mp h with e | e
  ·cases e;exact ⟨(env.cells.lookup n).getD 0,j5 r _ _ (by unfold dP; rw [if_pos (show (((n,NameKind.free):Str × NameKind).2 == NameKind.free)=true from rfl)]; exact zaq)⟩
  ·exact lp r _ e
def fB {α:Type}:∀ {l:List (Str × α)} {n:Str} {c:α},(n,c)∈l->∃ c',l.lookup n=some c'
 | (m,d) :: r,n,c,h=>by
  rw [zas];cases hb:n == m with
  | true=>exact ⟨d,rfl⟩
  | false =>
   rcases zay.mp h with e | e
   ·cases e;simp at hb
   ·exact fB e
def nI {env:Env} {names:List (Str × NameKind)} {n:Str} (h:(n,NameKind.free)∈names):∃ c,(dh env names).lookup n=some c :=
 let ⟨_,e⟩:=lp (env:=env) names [] h
 fB e
def mr {env:Env} {names:List (Str × NameKind)} {n:Str} {c:Addr} (h:∀ y∈names,y.2=.free->∃ c,env.cells.lookup y.1=some c) (e:(dh env names).lookup n=some c):env.cells.lookup n=some c:=by
 rcases lm names [] (n,c) (zaU e) with q | ⟨q,z⟩
 ·simp at q
 ·obtain ⟨a,ea⟩:=h _ q rfl;have z':c=(env.cells.lookup n).getD 0:=z;have ea':env.cells.lookup n=some a:=ea;rw [ea'] at z';rw [ea',z'];rfl
def iB {env:Env}:∀ {names:List (Str × NameKind)} {x:Str} {k:NameKind},
  (names.map fun (n,k)=>if (k == NameKind.free && env.scope.kind == .function && env.kindOf n == some .cell) then (n,NameKind.cell) else (n,k)).lookup x=some k ->
  names.lookup x=some k\/(names.lookup x=some .free/\k=.cell)
 | [],_,_,h=>by simp at h
 | (n,k0) :: r,x,k,h=>by
  rw [zar] at h;cases hx:x == n with
  | true =>
   rcases Bool.eq_false_or_eq_true (k0 == NameKind.free && env.scope.kind == .function && env.kindOf n == some .cell) with hc | hc
   ·simp only [hc,if_true,zas,hx] at h;have hk:k0=.free:=by
     simp only [Bool.and_eq_true,beq_iff_eq] at hc;exact hc.1.1
    refine .inr ⟨?_,?_⟩
    ·simp only [zas,hx,hk]
    ·exact (zat h).symm
   ·simp only [hc,Bool.false_eq_true,if_false,zas,hx] at h;refine .inl ?_;simp only [zas,hx];exact h
  | false =>
   have h':(r.map fun (n,k)=>if (k == NameKind.free && env.scope.kind == .function && env.kindOf n == some .cell) then (n,NameKind.cell) else (n,k)).lookup x=some k:=by
    rcases Bool.eq_false_or_eq_true (k0 == NameKind.free && env.scope.kind == .function && env.kindOf n == some .cell) with hc | hc
    ·simp only [hc,if_true,zas,hx] at h;exact h
    ·simp only [hc,Bool.false_eq_true,if_false,zas,hx] at h;exact h
   simp only [zas,hx];exact iB h'
def kL {env:Env}:∀ {names:List (Str × NameKind)} {x:Str},names.lookup x=some .free ->
  (names.map fun (n,k)=>if (k == NameKind.free && env.scope.kind == .function && env.kindOf n == some .cell) then (n,NameKind.cell) else (n,k)).lookup x=some .cell \/
  (names.map fun (n,k)=>if (k == NameKind.free && env.scope.kind == .function && env.kindOf n == some .cell) then (n,NameKind.cell) else (n,k)).lookup x=some .free
 | [],_,h=>by simp at h
 | (n,k0) :: r,x,h=>by
  rw [zar];cases hx:x == n with
  | true =>
   simp only [zas,hx] at h;rcases Bool.eq_false_or_eq_true (k0 == NameKind.free && env.scope.kind == .function && env.kindOf n == some .cell) with hc | hc
   ·refine .inl ?_;simp only [hc,if_true,zas,hx]
   ·refine .inr ?_;simp only [hc,Bool.false_eq_true,if_false,zas,hx];exact h
  | false =>
   simp only [zas,hx] at h;have ih:=kL (env:=env) h;rcases Bool.eq_false_or_eq_true (k0 == NameKind.free && env.scope.kind == .function && env.kindOf n == some .cell) with hc | hc
   ·simp only [hc,if_true,zas,hx];exact ih
   ·simp only [hc,Bool.false_eq_true,if_false,zas,hx];exact ih
def dU (js:List (Option Nat)) (σ:St):St:=js.map fun j=>match j with
 | some j=>(σ[j]?).join
 | none=>none
def PTs (X:Cx) (ifs:List Expr) (tt:TT):Prop :=
 ∀ (pins:List (Addr × Obj)) (s:Shared) (σ:St) (H:Hp) (Q:Bool->Hp->Prop),Inv X pins σ H s->tt σ H Q ->
  wpAny (model X.prog X.w) X.A (forIn ifs true fun c r=>if r=true then do let ok <- isTrue c X.env (eval c X.env); pure (ForInStep.yield ok) else pure (ForInStep.yield r)) (TP X pins σ Q) X.xe s
def FX:TT:=fun _ H Q=>Q true H
def pts_nil {X:Cx}:PTs X [] FX:=fun _ _ _ H _ I h=>wpAny_tests_nil ⟨H,I,h⟩
def zU {X:Cx} {c:Expr} {tc:TT} (hc:PT X c tc):PTs X [c] tc:=fun pins s σ H Q I h=>wpAny_tests_one (hc pins s σ H Q I h)
def DF (g:TG) (tt:TT) (te:TE) (D:Addr) (x:V) (τ:St) (H:Hp) (N:St->Hp->Prop):Prop :=
 g x τ H fun τ4 H4=>tt τ4 H4 fun b H5=>if b=true then te τ4 H5 fun v H6=>∃ xs,H6 D=some (.lst xs)/\xs.length < sizeLine/\N τ4 (upd H6 D (.lst (xs++[v]))) else N τ4 H5
def zy (J:It) (g:TG) (tt:TT) (te:TE) (σ0:St) (H1:Hp) (D:Addr) (Q:VK):Prop :=
 ∃ W:Nat->Nat->St->Hp->Prop,(∃ m,W 0 m σ0 (upd H1 D (.lst []))) /\
  ∀ i m τ H2,W i m τ H2->(J.stop i H2/\Q (.ref D) H2)\/(J.go i H2/\∃ N:St->Hp->Prop,(∀ τ' H',N τ' H'->∃ m',m' < m/\W (i+1) m' τ' H')/\∀ x H3,J.yld i H2 x H3->DF g tt te D x τ H3 N)
def tLC (wi:TI) (g:TG) (tt:TT) (te:TE) (js:List (Option Nat)):TE:=fun σ H Q =>
 wi σ H fun J H1=>∀ D,H1 D=none->zy J g tt te (dU js σ) H1 D Q
def thF {α:Type} {t:Sem α} {Q Q':α->Shared->Prop} {M:Model} {A:Around} {E:Value->Shared->Prop} {s:Shared} (h:wpAny M A t Q (fun _ _=>False) s) (hQ:∀ a s,Q a s->Q' a s):wpAny M A t Q' E s :=
 wpAny_mono h hQ fun _ _ x=>x.elim
section
variable {X:Cx} {elt tg iter:Expr} {ifs:List Expr} {scope:Scope} {pos:Pos} {ns:List Str} {js:List (Option Nat)} {wi:TI} {g:TG} {tt:TT} {te:TE}
end
section
variable {X:Cx}
def pT:∀ (bs:List Bool),(List.range bs.length).all (fun i=>bs.getD i true)=bs.all id:=fun bs=>by
 rw [Bool.eq_iff_iff,List.all_eq_true,List.all_eq_true];constructor
 ·intro h b hb;obtain ⟨i,hi,e⟩:=List.mem_iff_getElem.mp hb;have q:=h i (List.mem_range.mpr hi);rw [List.getD_eq_getElem?_getD,zak hi,e] at q;exact q
 ·intro h i hi;have hi':=List.mem_range.mp hi;rw [List.getD_eq_getElem?_getD,zak hi'];exact h _ (zaK hi')
def sP (hc:X.calm=true):CallR X (.builtin "all") (fun xs H Q=>∃ (p:Addr) (bs:List Bool),xs=[.ref p]/\SqL X.K H p (bs.map V.bl)/\Q (.bl (bs.all id)) H):=by
 intro pins s σ H xs us Q I r h;obtain ⟨p,bs,rfl,hp,q⟩:=h;obtain ⟨u,rfl,ru⟩:=da r;cases ru;obtain ⟨its,rv,pl,hz⟩:=I.list hp;have hl:its.length=bs.length:=by rw [<- rv.length,zad]
 have hlt:p < s.heap.objs.size:=by
  obtain ⟨o,n,e,_⟩:=id pl;exact zal e
 refine call_all_walk (wpAny_pyIter_list pl.isList ?_);refine ⟨s.heap.objs.size,[s.heap.objs.size,p],[s.heap.objs.size],its.toArray.size,fun i v=>its.toArray[i]?=some v,_,fun i=>bs.getD i true,rfl,Walks.list (A:=X.A.in1) (show X.A.in1.handled=none from I.ok.hd hc) s.heap.objs.size p (zaw hlt) its.toArray,?_,?_,?_⟩
 ·exact ⟨⟨_,zan _ rfl,rfl,rfl⟩,pl.isList.push _⟩
 ·intro i v s' Q' E' hv hq;have hv':its[i]?=some v:=by simpa using hv
  have hi:i < bs.length:=by
   rw [<- hl];exact (zah.mp hv').1
  obtain ⟨u,hu,ru⟩:=rv.get (i:=i) (x:=V.bl bs[i]) (by rw [zao,zak hi]; rfl);rw [hu] at hv';cases hv';cases ru;have e:bs.getD i true=bs[i]:=by rw [List.getD_eq_getElem?_getD,zak hi]; rfl
  have hq':Q' (bs.getD i true) s':=hq;rw [e] at hq';exact wpAny_truthy_bool hq'
 ·intro h' tk hk;have e:(List.range its.toArray.size).all (fun i=>bs.getD i true)=bs.all id:=by
   rw [<- pT bs,zai,hl]
  rw [e];refine ⟨.bl (bs.all id),H,I.kept (t':=tk) fun b o z=>hk b o ?_ (zaf _ z),rfl,q⟩;intro z';have z'':b=s.heap.objs.size:=by simpa using z'
  exact zaw (zal z) z''
def sO:CallR X (.builtin "isinstance") (fun xs H Q=>∃ x t n b,xs=[x,.ty n]/\TyOf X.K H x t/\PySem.W.kitOne X.K t (.type n)=some b/\Q (.bl b) H):=by
 intro pins s σ H xs us Q I r h;obtain ⟨x,t,n,b,rfl,ty,e,q⟩:=h;obtain ⟨u,w',rfl,r1,r2⟩:=zd r;cases r2;exact qF I r1 ty e fun tk=>⟨.bl b,H,I.tok _,rfl,q⟩
end
section
open PySem.SeqAt
variable {X:Cx} {pins:List (Addr × Obj)} {σ:St} {H:Hp} {s:Shared}
end
section
variable {X:Cx}
end
def Kn (P:Program) (w:World) (K:PySem.W.Frag) (mg:Str->Option Value) (base:Heap) (k:Nat) (x:Str) (ps:List Str) (sp:Sp):Prop :=
 ∃ f fd,FnOk P w K mg base CX0 k f fd ps sp/\mg x=some (.ref f)/\PySem.W.keepIn K (.ref f)=true/\Binds K fd ps []
def Kn.mono {P:Program} {w:World} {K:PySem.W.Frag} {mg:Str->Option Value} {base:Heap} {j k:Nat} {x:Str} {ps:List Str} {sp:Sp} (G:Kn P w K mg base j x ps sp) (h:j<=k):Kn P w K mg base k x ps sp :=
 let ⟨f,fd,a,b,c,d⟩:=G
 ⟨f,fd,a.mono h,b,c,d⟩
section
variable {X:Cx} {k:Nat} {x:Str} {ps:List Str} {sp:Sp} {p pos:Pos} {e:Expr} {es:List Expr} {t:TA}
def zw (G:Kn X.prog X.w X.K X.mg X.base k x ps sp) (hr:Room k X.A) (hg:Gl X x) (ha:PA X (e :: es) t) (hdb:(x == ("__debug__" : Str))=false:=by decide)
  (he:starEach (e :: es) X.env=(false,eval e X.env) :: starEach es X.env:=by rfl) (hpl:(backTo pos (starEach es X.env)).any (·.1)=false:=by rfl) :
  PE X (.Call (.Name x p) (e :: es) [] pos) (oV sp [] E0 t):=by
 obtain ⟨f,fd,F,hm,hk,hb⟩:=G;exact Ad F hr hg hm hk hb .nil Ff ha hdb he hpl
end
def FZ (K:PySem.W.Frag):List V->Hp->VK->Prop:=fun xs H Q=>∃ x n,xs=[x]/\EU K x H n/\Q (.int n) H
def zS (K:PySem.W.Frag):List V->Hp->VK->Prop:=fun xs H Q=>∃ p ys,xs=[.ref p]/\(SqL K H p ys\/SqT K H p ys)/\∀ l,H l=none->Q (.ref l) (upd H l (.lst ys))
def C8 (K:PySem.W.Frag):List V->Hp->VK->Prop:=fun xs H Q=>∃ p ys,xs=[.ref p]/\((SqL K H p ys/\∀ l,H l=none->Q (.ref l) (upd H l (.tup ys)))\/(SqT K H p ys/\Q (.ref p) H))
def F7 (K:PySem.W.Frag):List V->Hp->VK->Prop:=fun xs H Q=>∃ (p:Addr) (bs:List Bool),xs=[.ref p]/\SqL K H p (bs.map V.bl)/\Q (.bl (bs.all id)) H
section
variable {X:Cx} {K:PySem.W.Frag}
def Gc (hK:X.K=K):CallR X (.builtin "len") (FZ K):=by subst hK; exact sN
def Am (hK:X.K=K):CallR X (.type "list") (zS K):=by subst hK; exact nL
def DN (hK:X.K=K):CallR X (.type "tuple") (C8 K):=by subst hK; exact mM
def Ge (hK:X.K=K) (hc:X.calm=true):CallR X (.builtin "all") (F7 K):=by subst hK; exact sP hc
def Gd (hK:X.K=K):IxR X (o7 K):=by subst hK; exact ix_list
def Gb (hK:X.K=K):SlR X (Da K):=by subst hK; exact zR
def Ga (hK:X.K=K):SlR X (C9 K):=by subst hK; exact C4
def Fk (hK:X.K=K):OpR X (binaryOp .Add) (zu K):=by subst hK; exact Af
variable {tg l:Expr} {tl:TE} {es:List Expr} {t:TGs} {n k:Nat} {pos p p2 cpos apos:Pos}
end
def sgn (c:Nat):V:=.str ⟨#[c]⟩
def Its (z:Str):It:=⟨fun i _=>i < z.cps.size,fun i H x H'=>H'=H/\∃ c,z.cps[i]?=some c/\x=sgn c,fun i _=>z.cps.size<=i⟩
def rK {P:Program} {w:World} {K:PySem.W.Frag} {tg:Expr} (it:Addr) (z:Str) (t:Tok) (ty:String) (hty:ty="str_ascii_iterator"\/ty="str_iterator") :
  Turn P w K tg (Its z) [it] it (fun i h=>h.IsStrIter it ty z t i) where
 mem:=by simp
 obj:=fun i h st b hb=>by
  have e:b=it:=by simpa using hb
  subst e;obtain ⟨o,e,c,d⟩:=st;exact ⟨o,e,fun v q=>by rw [d] at q; cases q⟩
 keep:=fun i h h' st k=>let ⟨o,e,r⟩:=st; ⟨o,k it (by simp) o e,r⟩
 item:=by
  intro X hP hw hK hc i pins s σ H E I hf st hg;subst hP hw hK;obtain ⟨f0,f1,f2,f3,f4,f5⟩:=hf it (by simp);have W:Walks X.prog X.w X.A it [it] [it] z.cps.size (SignAt z) (fun i h=>h.IsStrIter it ty z t i):=by
   rcases hty with rfl | rfl
   ·exact Walks.strAscii (I.ok.hd hc) it z t
   ·exact Walks.strWide (I.ok.hd hc) it z t
  refine W.item i s _ _ hg st fun v h' tk hv st' kk=>?_;obtain ⟨c,u,hcv,rfl⟩:=hv;have I1:Inv X pins σ H { s with heap:=h',toks:=tk }:=I.turned (fun b o hb e=>kk b o (by simpa using hb) e) f0 f1 f3 f4 f5;obtain ⟨o,e,ec,ed⟩:=id st';refine ⟨_,rfl,mQ (s:={ s with heap:=h',toks:=tk }) (n:=ty) e ec ed (by rcases hty with rfl | rfl <;> decide) ⟨sgn c,H,I1,⟨u,rfl⟩,⟨rfl,c,hcv,rfl⟩,st',fun b hb=>(hf b hb).1⟩⟩
 done:=by
  intro X hP hw hK hc i pins s σ H E I hf st hg;subst hP hw hK;obtain ⟨f0,f1,f2,f3,f4,f5⟩:=hf it (by simp);have hle:z.cps.size<=i:=hg;rcases hty with rfl | rfl
  ·exact wpAny_pyNext_ascii_end (I.ok.hd hc) st (by simpa using hle) fun h' he=>⟨rfl,I.turned (t':=s.toks) (fun b o hb e=>he b o hb e) f0 f1 f3 f4 f5⟩
  ·exact wpAny_pyNext_wide_end (I.ok.hd hc) st (by simpa using hle) fun h' he=>⟨rfl,I.turned (t':=s.toks) (fun b o hb e=>he b o hb e) f0 f1 f3 f4 f5⟩
 self:=fun A i s Q E st h=>by
  rcases hty with rfl | rfl
  ·exact wpAny_pyIter_striter_ascii st h
  ·exact wpAny_pyIter_striter_wide st h
section
variable {X:Cx} {tg:Expr} {K:PySem.W.Frag}
def dw (z:Str):List V:=z.cps.toList.map sgn
def jX:∀ {xs:List V} {us:List Value},xs.length=us.length->(∀ (i:Nat) x u,xs[i]?=some x->us[i]?=some u->RelV x u)->Vals xs us
 | [],[],_,_=>.nil
 | [],_ :: _,h,_=>by cases h
 | _ :: _,[],h,_=>by cases h
 | x :: xs,u :: us,h,f=>.cons (f 0 x u rfl rfl) (jX (Nat.succ.inj h) fun i y v a b=>f (i+1) y v (by simpa using a) (by simpa using b))
def lQ (hc:X.calm=true):CallR X (.type "list") (fun xs H Q=>∃ z,xs=[.str z]/\z.cps.size<=sizeLine/\∀ l,H l=none->Q (.ref l) (upd H l (.lst (dw z)))):=by
 intro pins s σ H xs us Q I r h;obtain ⟨z,rfl,hz,q⟩:=h;obtain ⟨u,rfl,t,rfl⟩:=da r;refine call_list_str (I.ok.hd hc) z t (fun h' tk acc c' hk ho hi=>?_) hz;have hl:(dw z).length=acc.toList.length:=by
  unfold dw;rw [zad,zaY,zaY,hi.1]
 have rv:Vals (dw z) acc.toList:=jX hl fun i x v a b=>by
  obtain ⟨c,tk',hcv,rfl⟩:=hi.2 i v (by simpa using b);unfold dw at a;rw [zao] at a;have e:z.cps.toList[i]?=some c:=by simpa using hcv
  rw [e] at a;cases a;exact ⟨_,rfl⟩
 refine ⟨.ref s.heap.objs.size,_,I.laid (t':=tk) (o:=.lst (dw z)) hk (zav _) ⟨?_,acc.toList,c',rv,by simpa using ho⟩,rfl,q _ I.fresh⟩;unfold dw;rw [zad,zaY];exact hz
def kH {ys:List Str}:∀ {us:List Value},Vals (ys.map V.str) us->StrsAre us ys:=by
 induction ys with
 | nil=>intro us r; cases r; exact .nil
 | cons y ys ih =>
  intro us r;cases r with
  | cons r1 r2 =>
   obtain ⟨t,e⟩:=r1;subst e;exact .cons y t (ih r2)
def zr (K:PySem.W.Frag):V->List V->Hp->VK->Prop:=fun x xs H Q=>∃ sep ys p,x=.str sep/\xs=[.ref p]/\(SqL K H p (ys.map V.str)\/SqT K H p (ys.map V.str))/\sep.length<=16/\(ys.map (·.length)).sum+ys.length<=1048576/\Q (.str (Txt.join sep ys)) H
def dA (hK:X.K=K):MtR X "str.join" (zr K):=by
 subst hK;intro pins s σ H x xs v us Q I rx rs h;obtain ⟨sep,ys,p,rfl,rfl,hp,hs,hw,q⟩:=h;obtain ⟨t,rfl⟩:=rx;obtain ⟨u,rfl,ru⟩:=da rs;cases ru;rcases hp with hp | hp
 ·obtain ⟨its,rv,pl,_⟩:=I.list hp;exact join_listW pl.isList (by simpa using kH rv) hs hw fun t' k=>⟨.str _,H,I.tok k,⟨_,rfl⟩,q⟩
 ·obtain ⟨its,rv,pl,_⟩:=I.tuple hp;exact join_tupleW pl (by simpa using kH rv) hs hw fun t' k=>⟨.str _,H,I.tok k,⟨_,rfl⟩,q⟩
def dM (xs:List Nat) (lo hi:Option Int):List Nat:=(xs.drop (HT.sIx xs.length 0 lo)).take (HT.sIx xs.length xs.length hi - HT.sIx xs.length 0 lo)
def m5 (n d:Nat) (v:Option Int) (h:d<=n):HT.sIx n d v<=n:=by
 cases v with
 | none=>exact h
 | some i =>
  unfold HT.sIx
  dsimp only
  split <;> omega
def rL (lo hi:Option Int) (n:Nat):Builtin.Str.strSliceIndices lo hi 1 n=(List.range (HT.sIx n n hi - HT.sIx n 0 lo)).map (HT.sIx n 0 lo+·):=by
 obtain ⟨h1,h2,h3⟩:=ja lo hi n;have e:Builtin.Str.strSliceIndices lo hi 1 n=sliceRange (sliceBounds lo hi none n).1 (sliceBounds lo hi none n).2.1 (sliceBounds lo hi none n).2.2:=by
  cases lo <;> cases hi <;> rfl
 rw [e,h1,h2,h3,sliceRange_one]
def oX (x:Str) (lo hi:Option Int):Txt.slice x lo hi=⟨(dM x.cps.toList lo hi).toArray⟩:=by
 unfold Txt.slice;have hl:x.length=x.cps.toList.length:=by simp [Str.length]
 rw [rL];have e:(((List.range (HT.sIx x.length x.length hi - HT.sIx x.length 0 lo)).map (HT.sIx x.length 0 lo+·)).filterMap (x.cps[·]?))=dM x.cps.toList lo hi:=by
  rw [pick_run,hl];rfl
 rw [e];split
 ·rename_i hc;have hc':HT.sIx x.length x.length hi - HT.sIx x.length 0 lo=x.length:=by simpa using hc
  have h1:=m5 x.length x.length hi (zav _);have ha:HT.sIx x.length 0 lo=0\/x.length=0:=by omega
  have:dM x.cps.toList lo hi=x.cps.toList:=by
   unfold dM;rw [<- hl,hc'];rcases ha with z | z
   ·rw [z,List.drop_zero,hl,List.take_length]
   ·rw [z,List.take_zero];rw [hl] at z;exact (List.eq_nil_of_length_eq_zero z).symm
  rw [this]
 ·rfl
def FY:V->Option Int->Option Int->Hp->VK->Prop:=fun x lo hi H Q=>∃ z,x=.str z/\z.length<=sizeLine/\Q (.str ⟨(dM z.cps.toList lo hi).toArray⟩) H
def sl_str:SlR X FY:=by
 intro pins s σ H x v vl vu lo hi sl Q I rx hs pl pu h;obtain ⟨z,rfl,hz,q⟩:=h;obtain ⟨t,rfl⟩:=rx;rw [<- oX] at q;have go:∀ (l u:Option (Int × Tok)),s.heap.IsSlice sl l u none->l.map (·.1)=lo->u.map (·.1)=hi->wpAny (model X.prog X.w) X.A (getItem (.str z t) (.ref sl)) (EP X pins σ Q) X.xe s:=fun l u hsl e1 e2=>by
  subst e1 e2;exact wpAny_getItem_str_slice (st:=none) hsl rfl (post_val_or_str ⟨zau (Txt.slice_le z _ _) hz,fun t' k=>⟨.str _,H,I.tok k,⟨_,rfl⟩,q⟩⟩)
 refine ⟨"str",_,F.slot_str_getitem.lookup,typeIs_str _ _ _,?_⟩;cases pl with
 | none =>
  cases pu with
  | none=>exact go none none hs rfl rfl
  | int j u=>exact go none (some (j,u)) hs rfl rfl
 | int i t =>
  cases pu with
  | none=>exact go (some (i,t)) none hs rfl rfl
  | int j u=>exact go (some (i,t)) (some (j,u)) hs rfl rfl
def Dg (K:PySem.W.Frag):R2:=fun x y H Q=>∃ a b ys,x=.ref a/\y=.ref b/\SqT K H a []/\SqT K H b ys/\Q (.ref b) H
def rT (hK:X.K=K):OpR X (binaryOp .Add) (Dg K):=by
 subst hK;intro pins s σ H x y v u Q I rx ry h;obtain ⟨a,b,ys,rfl,rfl,ha,hb,q⟩:=h;cases rx;cases ry;obtain ⟨its,r1,p1,_⟩:=I.tuple ha;obtain ⟨its2,r2,p2,_⟩:=I.tuple hb;cases r1;obtain ⟨⟨cls,dd,data,sl⟩,ho,hc,n,hd⟩:=id p1;obtain ⟨⟨cls2,dd2,data2,sl2⟩,ho2,hc2,n2,hd2⟩:=id p2;simp only at hc hd hc2 hd2;subst hc hd hc2 hd2;exact concat_meets ⟨_,ho,rfl⟩ ⟨_,ho2,rfl⟩ noFill_tuple_add seq_tuple_add PySem.F.slot_tuple_add PySem.F.entry_tuple_add (PySem.F.args_tuple_add_2 _ _)
  (tuple_addW0 a b _ _ n n2 dd dd2 sl sl2 (by simp)) ⟨ho,ho2,⟨.ref b,H,I,rfl,q⟩⟩
end
section
variable {l l':List Addr} {H H':Hp} {a b:Addr} {o:HO}
end
section
variable {K:PySem.W.Frag}
end
section
variable {X:Cx} {tg:Expr} {K:PySem.W.Frag}
end
section
variable {prog:Program} {w:World} {A:Around} {E:Value->Shared->Prop} {s:Shared}
end
section
variable {X:Cx} {tg:Expr} {K:PySem.W.Frag}
end
abbrev li (z:Str):List Nat:=z.cps.toList
def mk1 (c:Nat):Str:=⟨#[c]⟩
def ofL (l:List Nat):Str:=⟨l.toArray⟩
def gj (l:List Nat):li (ofL l)=l:=rfl
def qt (z:Str):ofL (li z)=z:=rfl
def DE {a b:Str} (h:li a=li b):a=b:=by rw [<- qt a,<- qt b,h]
def nr (z:Str):z.length=(li z).length:=rfl
def oA {a b:Nat} (h:mk1 a=mk1 b):a=b:=by
 have:li (mk1 a)=li (mk1 b):=by rw [h]
 simpa [li,mk1] using this
def qy (a b:Str):li (a++b)=li a++li b:=by
 show (a.cps++b.cps).toList=_;rw [Array.toList_append]
def emp:Str:=""
def cat (ks:List Str):Str:=Txt.join emp ks
def aH (ks:List Str):List Nat:=(ks.map li).flatten
def EQ (ks:List Str):li (cat ks)=aH ks:=by
 unfold cat Txt.join aH;rw [StrLaws.glued_eq_join]
 induction ks with
 | nil=>rfl
 | cons x r ih =>
  cases r with
  | nil =>
   show li x=_;simp
  | cons y r =>
   show li (x++emp++Str.join emp (y :: r))=_;rw [qy,qy,ih];show li x++[]++_=li x++((y :: r).map li).flatten;rw [List.append_nil]
def nM (cs:List Nat):aH (cs.map mk1)=cs:=by
 unfold aH;rw [List.map_map]
 induction cs with
 | nil=>rfl
 | cons c r ih =>
  rw [zar,List.flatten_cons,ih];rfl
def mz (ks:List Str) (x:Str):aH (ks++[x])=aH ks++li x:=by
 unfold aH;rw [zaC,List.flatten_append];simp
def nN (ks:List Str):(ks.map (·.length)).sum=(aH ks).length:=by
 unfold aH;rw [List.length_flatten,List.map_map];rfl
def Sub (x z:List Nat):Prop:=∀ c∈x,c∈z
def gS {α β:Type} (f:α->β):∀ (ys:List α) (k:Nat),(ys.map f).eraseIdx k=(ys.eraseIdx k).map f
 | [],_=>rfl
 | _ :: _,0=>rfl
 | y :: ys,k+1=>by
  show f y :: (ys.map f).eraseIdx k=f y :: (ys.eraseIdx k).map f;rw [gS f ys k]
def C6 {n:Nat} {i:Int} (h0:0<=i) (h1:i < (n:Int)):seqIndex? i n=some i.toNat:=PySem.seqIndex_of h0 h1
def lg:∀ (us:List Nat) (d:Nat) (h:d < us.length),([us[d]]++us.eraseIdx d).Perm us
 | [],_,h=>absurd h (Nat.not_lt_zero _)
 | a :: r,0,_=>List.Perm.refl _
 | a :: r,d+1,h=>by
  have h':d < r.length:=Nat.lt_of_succ_lt_succ h;show (r[d] :: a :: r.eraseIdx d).Perm (a :: r);exact (List.Perm.swap _ _ _).trans (List.Perm.cons a (lg r d h'))
section
variable {prog:Program} {w:World} {A:Around} {E:Value->Shared->Prop} {s:Shared}
end
section
variable {X:Cx} {K:PySem.W.Frag}
def cg (z y:Str):Bool:=!(Builtin.Str.occurrences z y 0 z.length 1).isEmpty
def De (neg:Bool):R2:=fun x y H Q=>∃ a b,x=.str a/\y=.str b/\Q (.bl (if neg then !cg b a else cg b a)) H
def op_inS:OpR X (compareOp .In) (De false):=by
 intro pins s σ H x y v u Q I rx ry h;obtain ⟨a,b,rfl,rfl,q⟩:=h;obtain ⟨t,rfl⟩:=rx;obtain ⟨t2,rfl⟩:=ry;exact PySem.P.in_str ⟨.bl _,H,I,rfl,q⟩
def op_notInS:OpR X (compareOp .NotIn) (De true):=by
 intro pins s σ H x y v u Q I rx ry h;obtain ⟨a,b,rfl,rfl,q⟩:=h;obtain ⟨t,rfl⟩:=rx;obtain ⟨t2,rfl⟩:=ry;exact PySem.P.notIn_str ⟨.bl _,H,I,rfl,q⟩
end
section
open PySem.SeqAt
end
def dR:∀ (names:List (Str × NameKind)) (n:Nat) (acc:List (Str × Addr)),cellsFrom n names acc=cellsFrom n names []++acc
 | [],_,_=>rfl
 | (x,k) :: r,n,acc=>by
  unfold cellsFrom;split
  ·rw [dR r (n+1) ((x,n) :: acc),dR r (n+1) [(x,n)],zaD];rfl
  ·exact dR r n acc
def fF:∀ (names:List (Str × NameKind)) (n:Nat) (acc:List (Str × Addr)) {x:Str} {c:Addr},(x,c)∈cellsFrom n names acc->(x,c)∈acc\/(x,NameKind.cell)∈names
 | [],_,_,_,_,h=>.inl h
 | (y,k) :: r,n,acc,x,c,h=>by
  unfold cellsFrom at h;split at h
  ·rename_i hk;rcases fF r _ _ h with h | h
   ·rcases zay.mp h with e | e
    ·have hk':k=.cell:=by simpa using hk
     have e':=(Prod.mk.inj e).1;rw [e',<- hk'];exact .inr zaq
    ·exact .inl e
   ·exact .inr (zaj _ h)
  ·rcases fF r _ _ h with h | h
   ·exact .inl h
   ·exact .inr (zaj _ h)
def e8:∀ (names:List (Str × NameKind)) (n:Nat) (acc:List (Str × Addr)) {p:Str × Addr},p∈acc->p∈cellsFrom n names acc
 | [],_,_,_,h=>h
 | (y,k) :: r,n,acc,p,h=>by
  unfold cellsFrom;split
  ·exact e8 r _ _ (zaj _ h)
  ·exact e8 r _ _ h
def fG:∀ (names:List (Str × NameKind)) (n:Nat) (acc:List (Str × Addr)) {x:Str},(x,NameKind.cell)∈names->∃ c,(x,c)∈cellsFrom n names acc
 | [],_,_,_,h=>by simp at h
 | (y,k) :: r,n,acc,x,h=>by
  unfold cellsFrom;rcases zay.mp h with e | e
  ·cases e;rw [if_pos (by rfl)];exact ⟨n,e8 r _ _ zaq⟩
  ·split
   ·exact fG r _ _ e
   ·exact fG r _ _ e
def np {α:Type}:∀ {a b:List (Str × α)} {x:Str} {c:α},(a++b).lookup x=some c->a.lookup x=some c\/(a.lookup x=none/\b.lookup x=some c)
 | [],_,_,_,h=>.inr ⟨rfl,h⟩
 | (n,v) :: r,b,x,c,h=>by
  rw [List.cons_append,zas] at h;rw [zas];cases e:x == n with
  | true=>rw [e] at h; exact .inl h
  | false=>rw [e] at h; exact np h
def jg {α:Type}:∀ {a b:List (Str × α)} {x:Str} {c:α},a.lookup x=some c->(a++b).lookup x=some c
 | [],_,_,_,h=>by simp at h
 | (n,v) :: r,b,x,c,h=>by
  rw [List.cons_append,zas];rw [zas] at h;cases e:x == n with
  | true=>rw [e] at h; exact h
  | false=>rw [e] at h; exact jg h
def iF {α:Type}:∀ {a b:List (Str × α)} {x:Str} {c:α},a.lookup x=none->b.lookup x=some c->(a++b).lookup x=some c
 | [],_,_,_,_,h=>h
 | (n,v) :: r,b,x,c,hn,h=>by
  rw [List.cons_append,zas];rw [zas] at hn;cases e:x == n with
  | true=>rw [e] at hn; cases hn
  | false=>rw [e] at hn; exact iF hn h
abbrev a7 (X:Cx) (scope:Scope) (ns:List Str) (C:Addr) (cl:List (Str × Addr)) (s₀:Shared) (H₀:Hp) (fp:List Addr):Cx :=
 { X with N:=ns,s₀:=s₀,H₀:=H₀,env:=compEnvC scope cl C X.env,outer:=X.stack,ex:=fp,fn:=fun x=>scope.names.lookup x == some NameKind.cell,pn:=[],xe:=fun _ _=>False }
structure BlkOkC (X:Cx) (scope:Scope) (ns:List Str) (js:List (Option Nat)):Prop where
 kind:scope.kind=.function
 uniq:∀ y∈scope.names,y.2=.cell->scope.names.lookup y.1=some .cell
 names:∀ y∈scope.names,y.2=.local->scope.names.lookup y.1=some .local
 free:∀ y∈scope.names,y.2=.free->X.env.kindOf y.1=some .cell\/X.env.kindOf y.1=some .free
 nd:ns.Nodup
 len:js.length=ns.length
 out:∀ (i:Nat) (x:Str) (j:Nat),ns[i]?=some x->js[i]?=some (some j)->X.N[j]?=some x/\scope.names.lookup x=some .free
def oN (N:List Str) (sc scope:Scope) (ns:List Str) (js:List (Option Nat)):Bool :=
 decide (scope.kind=.function) && scope.names.all (fun y=>decide (y.2=.cell->scope.names.lookup y.1=some .cell)) && scope.names.all (fun y=>decide (y.2=.local->scope.names.lookup y.1=some .local)) &&
 scope.names.all (fun y=>decide (y.2=.free->sc.names.lookup y.1=some .cell\/sc.names.lookup y.1=some .free)) && decide ns.Nodup && decide (js.length=ns.length) &&
 (List.range ns.length).all (fun i=>match js[i]?,ns[i]? with
  | some (some j),some x=>decide (N[j]?=some x) && decide (scope.names.lookup x=some .free)
  | _,_=>true)
def A3 {N:List Str} {scope:Scope} {ns:List Str} {js:List (Option Nat)} (h7:∀ i < ns.length,(match js[i]?,ns[i]? with
  | some (some j),some x=>decide (N[j]?=some x) && decide (scope.names.lookup x=some .free)
  | _,_=>true)=true) {i:Nat} {x:Str} {j:Nat} (e1:ns[i]?=some x) (e2:js[i]?=some (some j)):N[j]?=some x/\scope.names.lookup x=some .free:=by
 have q:=h7 i (zah.mp e1).1;rw [e1,e2] at q;simpa using q
def BlkOkC.of {X:Cx} {scope:Scope} {ns:List Str} {js:List (Option Nat)} {N0:List Str} {sc0:Scope} (hN:X.N=N0) (hS:X.env.scope=sc0) (h:oN N0 sc0 scope ns js=true):BlkOkC X scope ns js:=by
 unfold oN at h;simp only [Bool.and_eq_true,List.all_eq_true,decide_eq_true_eq,List.mem_range] at h;obtain ⟨⟨⟨⟨⟨⟨h1,h2⟩,h3⟩,h4⟩,h5⟩,h6⟩,h7⟩:=h;refine ⟨h1,fun y hy=>h2 y hy,fun y hy=>h3 y hy,fun y hy hk=>?_,h5,h6,fun i x j e1 e2=>?_⟩
 ·have q:=h4 y hy hk;rw [<- hS] at q;exact q
 ·rw [hN];exact A3 h7 e1 e2
section
variable {M:Model} {A:Around} {E:Value->Shared->Prop} {s:Shared}
def gL {scope:Scope} {globals:Addr} {closure:List (Str × Addr)} {qual:Str} {outer:Env} {builtins:Addr} {Q:Env->Shared->Prop}
  (hQ:Q (newEnv scope s.heap.objs.size globals (cellsFrom (s.heap.objs.size+1) scope.names closure) qual none .none (some outer) builtins) { s with heap:=pushCells (s.heap.push { cls:=.type "dict",data:=.dict #[] }) scope.names }) :
  wpAny M A (newFunctionEnv scope globals closure [] qual none .none (some outer) builtins) Q E s:=by
 simp only [newFunctionEnv,Option.isSome_some,if_true];refine zam (wpAny_alloc ?_);refine zam (wpAny_layCells _ (fun name kind cells=>by cases hkc:kind == NameKind.cell <;> simp [hkc]) _ _ _ _ ?_);rw [show ({ s with heap:=s.heap.push { cls:=.type "dict",data:=.dict #[] } }:Shared).heap.objs.size=s.heap.objs.size+1 from Heap.size_push ..];rw [List.forIn_nil];exact zam (zaT (zaT hQ))
end
section
variable {X:Cx} {elt tg iter:Expr} {ifs:List Expr} {scope:Scope} {pos:Pos} {ns:List Str} {js:List (Option Nat)} {wi:TI} {g:TG} {tt:TT} {te:TE}
def sQ {pins:List (Addr × Obj)} {s3:Shared} {σ:St} {H3:Hp} {fp:List Addr} {h₁:Heap} {tk:Nat} (B:BlkOkC X scope ns js) (I3:Inv X pins σ H3 s3)
  (f3:∀ b∈fp,ij X pins H3 b) (lt3:∀ b∈fp,b < s3.heap.objs.size) (hns:h₁.Ns s3.heap.objs.size (fun _=>none)) (old:∀ b u,s3.heap.get? b=some u->h₁.get? b=some u)
  (cok:CellsOk h₁ (s3.heap.objs.size+1) (cellsFrom (s3.heap.objs.size+1) scope.names [])) :
  Inv (a7 X scope ns s3.heap.objs.size (cellsFrom (s3.heap.objs.size+1) scope.names (dh X.env scope.names)) s3 H3 fp) [] (dU js σ) H3 { s3 with heap:=h₁,toks:=tk }:=by
 rw [dR];have hmem:∀ {x:Str} {c:Addr},(x,c)∈cellsFrom (s3.heap.objs.size+1) scope.names []->scope.names.lookup x=some .cell:=fun {x c} h=>by
  rcases fF _ _ _ h with h | h
  ·simp at h
  ·exact B.uniq _ h rfl
 have hhas:∀ {x:Str},scope.names.lookup x=some .cell->∃ c,(cellsFrom (s3.heap.objs.size+1) scope.names []).lookup x=some c:=fun {x} h=>by
  obtain ⟨c,hc⟩:=fG scope.names (s3.heap.objs.size+1) [] (zaU h);exact fB hc
 generalize cellsFrom (s3.heap.objs.size+1) scope.names []=CS at cok hmem hhas;have has:∀ y∈scope.names,y.2=.free->∃ c,X.env.cells.lookup y.1=some c:=fun y hy hk=>I3.ok.has y.1 (B.free y hy hk);have look:∀ {n:Str} {c:Addr},(CS++dh X.env scope.names).lookup n=some c->(CS.lookup n=some c/\h₁.IsCell c none/\s3.heap.objs.size+1<=c)\/(CS.lookup n=none/\X.env.cells.lookup n=some c/\c < s3.heap.objs.size):=fun {n c} e=>by
  rcases np e with e | ⟨e1,e2⟩
  ·exact .inl ⟨e,cok.empty n c (zaU e)⟩
  ·have e3:=mr has e2;obtain ⟨v,hv⟩:=I3.cell n c e3;exact .inr ⟨e1,e3,hv.lt⟩
 refine ⟨⟨I3.ok.mod,B.kind,I3.ok.glob,I3.ok.blt,zav _,fun y z c h1 h2=>?_,fun y hy=>?_,fun y c hf h=>?_,I3.ok.hd,I3.ok.frames,.inl rfl,fun b hb=>?_,I3.bs,zau I3.ok.bsz I3.sz,
   fun b o e hb=>?_,fun b hb z=>?_,I3.stack,I3.stkFree⟩,
  rfl,I3.bare,Un.kept old,⟨_,hns,fun i x v h1 h2 h3=>?_⟩,fun y c h=>?_,I3.fresh,fun y c h=>?_,fun p hp=>absurd (show p∈([]:List (Addr × Obj)) from hp) (by simp),I3.hok.kept old,?_⟩
 ·rcases look h1 with ⟨a1,_,a3⟩ | ⟨_,a2,a3⟩ <;> rcases look h2 with ⟨b1,_,b3⟩ | ⟨_,b2,b3⟩
  ·exact name_of_addr cok.apart (zaU a1) (zaU b1)
  ·exact absurd (zag (zag b3 (Nat.le_succ _)) a3) (zaI _)
  ·exact absurd (zag (zag a3 (Nat.le_succ _)) b3) (zaI _)
  ·exact I3.ok.inj y z c a2 b2
 ·have hf:scope.names.lookup y=some .cell\/scope.names.lookup y=some .free:=by
   rcases hy with hy | hy
   ·rcases iB (env:=X.env) hy with q | q
    ·exact .inl q
    ·exact .inr q.1
   ·rcases iB (env:=X.env) hy with q | q
    ·exact .inr q
    ·exact .inr q.1
  show ∃ c,(CS++dh X.env scope.names).lookup y=some c;rcases hf with hf | hf
  ·obtain ⟨c,hc⟩:=hhas hf;exact ⟨c,jg hc⟩
  ·obtain ⟨c,hc⟩:=nI (env:=X.env) (zaU hf);cases e:CS.lookup y with
   | none=>exact ⟨c,iF e hc⟩
   | some d=>exact ⟨d,jg e⟩
 ·rcases look h with ⟨_,_,a3⟩ | ⟨a1,_,_⟩
  ·show s3.heap.objs.size<=c;omega
  ·have hf':(scope.names.lookup y == some NameKind.cell)=true:=hf;obtain ⟨d,hd⟩:=hhas (by simpa using hf');rw [a1] at hd;cases hd
 ·refine ⟨zaw (lt3 b hb),fun x c e=>?_⟩;rcases look e with ⟨_,_,a3⟩ | ⟨_,a2,_⟩
  ·have:=lt3 b hb;intro z;subst z;exact zaI _ (zag (zag this (Nat.le_succ _)) a3)
  ·exact (f3 b hb).2.2.2.2.1 x c a2
 ·rcases (f3 b hb).2.2.2.1 with z | z
  ·exact I3.ok.noex b o e z
  ·exact absurd (zag (zag (zal e) I3.ok.bsz) z) (zaI _)
 ·rcases zay.mp (I3.stkSub b z) with q | q
  ·exact (f3 b hb).2.1 q
  ·exact (f3 b hb).2.2.1 q
 ·have h2':(js.map fun j=>match j with | some j=>(σ[j]?).join | none=>none)[i]?=some (some v):=h2;rw [zao] at h2';obtain ⟨j,hj,hσ⟩:∃ j,js[i]?=some (some j)/\σ[j]?=some (some v):=by
   cases e:js[i]? with
   | none=>rw [e] at h2'; simp at h2'
   | some oj =>
    rw [e] at h2';cases oj with
    | none=>simp at h2'
    | some j =>
     refine ⟨j,rfl,?_⟩;have q:(σ[j]?).join=some v:=by simpa using h2'
     cases e2:σ[j]? with
     | none=>rw [e2] at q; simp at q
     | some ov =>
      rw [e2] at q;simp at q;rw [q]
  obtain ⟨hN,hfr⟩:=B.out i x j h1 hj;have hf:=B.free (x,.free) (zaU hfr) rfl;have hf':X.env.kindOf x=some .cell\/X.env.kindOf x=some .free:=hf;obtain ⟨m,hn,hl⟩:=I3.loc;obtain ⟨u,r,l⟩:=hl j x v hN hσ (by
   rcases hf' with z | z
   ·exact .inr (.inl z)
   ·exact .inr (.inr z))
  refine ⟨u,r,?_⟩;rcases l with ⟨hk,_⟩ | ⟨hk,c,hc,hcell⟩
  ·rcases hf' with z | z
   ·rw [z] at hk; cases hk
   ·rw [z] at hk; cases hk
  ·obtain ⟨c',hc'⟩:=nI (env:=X.env) (zaU hfr);have e':=mr has hc';rw [hc] at e';cases e';obtain ⟨o,ho,hd⟩:=hcell;have hno:CS.lookup x=none:=by
    cases e:CS.lookup x with
    | none=>rfl
    | some d =>
     have q:=hmem (zaU e);rw [hfr] at q;cases q
   exact .inr ⟨kL (env:=X.env) hfr,c,iF hno hc',⟨o,old c o ho,hd⟩⟩
 ·rcases look h with ⟨_,a2,_⟩ | ⟨_,a2,_⟩
  ·exact ⟨_,a2⟩
  ·obtain ⟨v,o,ho,hd⟩:=I3.cell y c a2;exact ⟨v,o,old c o ho,hd⟩
 ·rcases look h with ⟨_,_,a3⟩ | ⟨_,a2,_⟩
  ·exact I3.hok.fresh (by omega)
  ·exact I3.freeC y c a2
 ·show (js.map _).length=ns.length;rw [zad];exact B.len
def r6 {pins:List (Addr × Obj)} {s2:Shared} {σ:St} {H2:Hp} {Qv:VK} {J:It} {fp:List Addr} {it:Addr} {tn:Nat->Heap->Prop} {RR:Value->Addr->Result->Shared->Prop}
  (B:BlkOkC X scope ns js) (hc:X.calm=true) (I2:Inv X pins σ H2 s2) (T:Turn X.prog X.w X.K tg J fp it tn) (st2:tn 0 s2.heap) (f2:∀ b∈fp,ij X pins H2 b)
  (hg:∀ C cl s₀ H₀ fp,PG (a7 X scope ns C cl s₀ H₀ fp) tg g) (ht:∀ C cl s₀ H₀ fp,PTs (a7 X scope ns C cl s₀ H₀ fp) ifs tt) (he:∀ C cl s₀ H₀ fp,PE (a7 X scope ns C cl s₀ H₀ fp) elt te)
  (hw:∀ D,H2 D=none->zy J g tt te (dU js σ) H2 D Qv)
  (hRR:∀ D C s' H',Inv X pins σ H' s'->Qv (.ref D) H'->(∃ m,s'.heap.Ns C m)->H' C=none->C≠X.env.locals->X.s₀.heap.objs.size<=C->(∀ x c,X.env.cells.lookup x=some c->c≠C)->(∀ p∈X.pn++pins,p.1≠C)->RR (.ref D) C (.ok .next) s') :
  wpAny (model X.prog X.w) X.A (newList []) (fun acc s₃=>wpAny (model X.prog X.w) X.A (newFunctionEnv scope X.env.globals (dh X.env scope.names) [] X.env.qual none .none (some X.env)) (fun cenv s₄ =>
   codeAny (model X.prog X.w) X.A (.compStart (.ListComp elt [⟨tg,iter,ifs,0⟩] scope pos) 0 (.ref it) acc { cenv with scope:=relabel scope X.env }) (RR acc cenv.locals) s₄) X.xe s₃) X.xe s2:=by
 refine wpAny_newObj_type (gL ?_)
 dsimp only
 have I3:Inv X pins σ (upd H2 s2.heap.objs.size (.lst [])) { s2 with heap:=s2.heap.push { cls:=.type "list",data:=.seq ([]:List Value).toArray },toks:=s2.toks }:=I2.lnew .nil (Nat.zero_le _);generalize hs3:({ s2 with heap:=s2.heap.push { cls:=.type "list",data:=.seq ([]:List Value).toArray },toks:=s2.toks }:Shared)=s3 at I3;have e3:s3.heap=s2.heap.push { cls:=.type "list",data:=.seq ([]:List Value).toArray }:=by rw [<- hs3]
 have k3:∀ b u,s2.heap.get? b=some u->s3.heap.get? b=some u:=fun b u e=>by rw [e3]; exact zaf _ e
 have sz3:s3.heap.objs.size=s2.heap.objs.size+1:=by rw [e3,Heap.size_push]
 have hD:H2 s2.heap.objs.size=none:=I2.fresh;obtain ⟨h₁,hh₁⟩:∃ h₁,h₁=pushCells (s3.heap.push { cls:=.type "dict",data:=.dict #[] }) scope.names:=⟨_,rfl⟩;have old:∀ b u,s3.heap.get? b=some u->h₁.get? b=some u:=fun b u e=>by
  rw [hh₁];exact pushCells_keeps _ _ b u (zaf _ e)
 have hns:h₁.Ns s3.heap.objs.size (fun _=>none):=by
  rw [hh₁];exact (Heap.Ns.new s3.heap (.type "dict")).keeps (pushCells_keeps _ _)
 have cok:CellsOk h₁ (s3.heap.objs.size+1) (cellsFrom (s3.heap.objs.size+1) scope.names []):=by
  have q:=cellsFrom_ok scope.names (s3.heap.push { cls:=.type "dict",data:=.dict #[] }) (s3.heap.objs.size+1) [] ⟨fun _ _ hm=>(nomatch hm),List.Pairwise.nil⟩ (by rw [Heap.size_push]; exact zav _);rw [Heap.size_push,<- hh₁] at q;exact q
 have obj2:∀ b∈fp,b < s2.heap.objs.size:=fun b hb=>let ⟨o,e,_⟩:=T.obj 0 _ st2 b hb; zal e;have f3:∀ b∈fp,ij X pins (upd H2 s2.heap.objs.size (.lst [])) b:=fun b hb=>⟨by rw [bg (zaw (obj2 b hb))]; exact (f2 b hb).1,(f2 b hb).2⟩;have lt3:∀ b∈fp,b < s3.heap.objs.size:=fun b hb=>by rw [sz3]; exact Nat.lt_succ_of_lt (obj2 b hb)
 obtain ⟨W,⟨m0,w0⟩,turn⟩:=hw _ hD;have J0:=fun tk=>sQ (tk:=tk) B I3 f3 lt3 hns old cok;have has:∀ y∈scope.names,y.2=.free->∃ c,X.env.cells.lookup y.1=some c:=fun y hy hk=>I2.ok.has y.1 (B.free y hy hk);have stat:∀ {H':Hp},(∀ b∈fp,H' b=none)->∀ b∈fp,ij (a7 X scope ns s3.heap.objs.size (cellsFrom (s3.heap.objs.size+1) scope.names (dh X.env scope.names)) s3 (upd H2 s2.heap.objs.size (.lst [])) fp) [] H' b:=fun hn b hb =>
  ⟨hn b hb,zaw (lt3 b hb),(J0 0).ok.exfs b hb,.inl hb,fun x c e=>(J0 0).ok.exf b hb |>.2 x c e,fun p hp=>absurd (show p∈([]:List (Addr × Obj)) from hp) (by simp)⟩
 have fin:∀ {τ:St} {H':Hp} {s':Shared},Inv (a7 X scope ns s3.heap.objs.size (cellsFrom (s3.heap.objs.size+1) scope.names (dh X.env scope.names)) s3 (upd H2 s2.heap.objs.size (.lst [])) fp) [] τ H' s'->Qv (.ref s2.heap.objs.size) H'->RR (.ref s2.heap.objs.size) s3.heap.objs.size (.ok .next) s':=fun {τ H' s'} I6 q=>by
  have u1:Un (frs X.stack) fp H2 (upd H2 s2.heap.objs.size (.lst [])) s2.heap s3.heap:=Un.laid k3 (zav _) hD;have os3:s3.os=s2.os:=by rw [<- hs3]
  have I7:Inv X pins σ H' s':=I2.call' (ch:=fp) (I6.os.trans os3) (u1.trans I6.base) I6.hok I6.bare fun b hb=>⟨(f2 b hb).2.2.2.1,(f2 b hb).2.1,(f2 b hb).2.2.2.2.1,(f2 b hb).2.2.2.2.2⟩;have le2:s2.heap.objs.size<=s3.heap.objs.size:=by rw [sz3]; exact Nat.le_succ _
  refine hRR _ _ s' H' I7 q ?_ I6.free (Nat.ne_of_gt (zag I2.lt le2)) (zau I2.sz le2) (fun x c e z=>?_) fun p hp z=>?_
  ·obtain ⟨m,hn,_⟩:=I6.loc;exact ⟨m,hn⟩
  ·obtain ⟨v,hv⟩:=I2.cell x c e;exact absurd (zag hv.lt (by rw [z]; exact le2)) (zaI _)
  ·exact absurd (zag (zal (I2.pin p hp).1) (by rw [z]; exact le2)) (zaI _)
 rw [<- e3,<- hh₁];have loop:∀ tk,codeAny (model X.prog X.w) X.A (.compLoop (.ListComp elt [⟨tg,iter,ifs,0⟩] scope pos) 0 (.ref it) (.ref s2.heap.objs.size) (compEnvC scope (cellsFrom (s3.heap.objs.size+1) scope.names (dh X.env scope.names)) s3.heap.objs.size X.env))
   (RR (.ref s2.heap.objs.size) s3.heap.objs.size) { s3 with heap:=h₁,toks:=tk }:=fun tk=>by
  refine codeAny_loop rfl (fun n s'=>∃ i τ H',Inv (a7 X scope ns s3.heap.objs.size (cellsFrom (s3.heap.objs.size+1) scope.names (dh X.env scope.names)) s3 (upd H2 s2.heap.objs.size (.lst [])) fp) [] τ H' s'/\tn i s'.heap/\(∀ b∈fp,H' b=none)/\W i n τ H') (fun n s5 hI=>?_) m0
   ⟨0,_,_,J0 tk,T.keep _ _ _ st2 fun b _ o e=>old b o (k3 b o e),fun b hb=>(f3 b hb).1,w0⟩
  obtain ⟨i,τ,H5,I5,st5,fr5,w5⟩:=hI;show wpAny _ X.A ((compTurn (.ListComp elt [⟨tg,iter,ifs,0⟩] scope pos) 0 (.ref it) (.ref s2.heap.objs.size) (compEnvC scope (cellsFrom (s3.heap.objs.size+1) scope.names (dh X.env scope.names)) s3.heap.objs.size X.env)).onRaise (fun x=>do noteFrame x (compEnvC scope (cellsFrom (s3.heap.objs.size+1) scope.names (dh X.env scope.names)) s3.heap.objs.size X.env); theTreesLotGoes x)) _ _ s5;refine wpAny_noted ?_;rw [compTurn_list];refine zam (wpAny_standAt (zam ?_));rcases turn i n τ H5 w5 with ⟨stop,qn⟩ | ⟨go,N,hN,step⟩
  ·refine thn (T.done (a7 X scope ns s3.heap.objs.size (cellsFrom (s3.heap.objs.size+1) scope.names (dh X.env scope.names)) s3 (upd H2 s2.heap.objs.size (.lst [])) fp) rfl rfl rfl hc i [] s5 τ H5 _ I5 (stat fr5) st5 stop) fun r s6 ⟨hr,I6⟩=>?_;subst hr;exact zaT (fin I6 qn)
  ·refine thn (T.item (a7 X scope ns s3.heap.objs.size (cellsFrom (s3.heap.objs.size+1) scope.names (dh X.env scope.names)) s3 (upd H2 s2.heap.objs.size (.lst [])) fp) rfl rfl rfl hc i [] s5 τ H5 _ I5 (stat fr5) st5 go) fun r s6 ⟨u,hr,h6⟩=>?_;subst hr
   dsimp only
   refine zam (thn h6 fun _ s7 ⟨x,H7,I7,r7,y7,st7,fr7⟩=>?_);have I7':=I7.pinned (stat fr7) (T.obj _ _ st7);have back:∀ {τ9:St} {H9:Hp} {s9:Shared},Inv (a7 X scope ns s3.heap.objs.size (cellsFrom (s3.heap.objs.size+1) scope.names (dh X.env scope.names)) s3 (upd H2 s2.heap.objs.size (.lst [])) fp) ([]++jb fp s7.heap) τ9 H9 s9 ->
     Inv (a7 X scope ns s3.heap.objs.size (cellsFrom (s3.heap.objs.size+1) scope.names (dh X.env scope.names)) s3 (upd H2 s2.heap.objs.size (.lst [])) fp) [] τ9 H9 s9/\tn (i+1) s9.heap/\∀ b∈fp,H9 b=none:=fun {τ9 H9 s9} I9=>by
    refine ⟨I9.unpinned,T.keep _ _ _ st7 fun b hb o e=>(I9.pin (b,o) (List.mem_append_right _ (List.mem_append_right _ (fM hb e)))).1,fun b hb=>?_⟩;obtain ⟨o,e,d⟩:=T.obj _ _ st7 b hb;exact (I9.pin (b,o) (List.mem_append_right _ (List.mem_append_right _ (fM hb e)))).2.1
   refine zam (thF (hg _ _ _ _ _ _ s7 τ H7 x u _ I7' r7 (step x H7 y7)) fun _ s8 ⟨τ8,H8,I8,q8⟩=>?_);refine zam (thF (ht _ _ _ _ _ _ s8 τ8 H8 _ I8 q8) fun b s9 ⟨H9,I9,q9⟩=>?_);cases b with
   | false =>
    rw [if_neg Bool.false_ne_true] at q9;obtain ⟨m',hm,w9⟩:=hN _ _ q9;obtain ⟨a1,a2,a3⟩:=back I9;exact zaT ⟨rfl,m',hm,i+1,τ8,H9,a1,a2,a3,w9⟩
   | true =>
    rw [if_pos rfl] at q9;refine zam (zam (thF (he _ _ _ _ _ _ s9 τ8 H9 _ I9 q9) fun v s10 ⟨y,H10,I10,r10,q10⟩=>?_));obtain ⟨xs,hx,hz,n10⟩:=q10;obtain ⟨m',hm,w10⟩:=hN _ _ n10;refine zam (thF (l7 _ s10 τ8 H10 (.ref s2.heap.objs.size) [y] (.ref s2.heap.objs.size) [v] (fun _ H11=>W (i+1) m' τ8 H11) I10 rfl (.cons r10 .nil) ⟨_,xs,y,rfl,rfl,hx,hz,w10⟩) fun _ s11 ⟨_,H11,I11,_,q11⟩=>?_);obtain ⟨a1,a2,a3⟩:=back I11;exact zaT (zaT ⟨rfl,m',hm,i+1,τ8,H11,a1,a2,a3,q11⟩)
 have hst1:tn 0 h₁:=T.keep _ _ _ st2 fun b _ o e=>old b o (k3 b o e);subst hs3;exact codeAny_compStart_list (loop _) (T.self _ 0 _ _ _ hst1 (loop _))
def qm (B:BlkOkC X scope ns js) (hc:X.calm=true) (hi:PI X tg iter wi)
  (hg:∀ C cl s₀ H₀ fp,PG (a7 X scope ns C cl s₀ H₀ fp) tg g) (ht:∀ C cl s₀ H₀ fp,PTs (a7 X scope ns C cl s₀ H₀ fp) ifs tt) (he:∀ C cl s₀ H₀ fp,PE (a7 X scope ns C cl s₀ H₀ fp) elt te)
  (hs:∀ x,foldedSetIterable iter X.env x=pure x:=by intro _; rfl):PE X (.ListComp elt [⟨tg,iter,ifs,0⟩] scope pos) (tLC wi g tt te js):=by
 intro pins s σ H Q I h;rw [eval_ListComp];have hclos:=pR (scope:=scope) (env:=X.env) (fun y hy hk=>I.ok.has y.1 (B.free y hy hk));refine wpAny_comprehension_free (use:=none) rfl hs hclos B.kind B.names (thn (hi pins s σ H _ I h) fun v s1 h1=>thn h1 fun itv s2 h2=>?_);obtain ⟨it,fp,tn,J,H2,e,I2,T,st2,f2,hw⟩:=h2;subst e;refine r6 (RR:=fun acc C=>compPost (model X.prog X.w) X.A X.xe none (EP X pins σ Q) acc C) B hc I2 T st2 f2 hg ht he hw ?_;intro D C s' H' I' q hm c0 c1 c2 c3 c4;obtain ⟨m,hn⟩:=hm;exact ⟨m,hn,fun h' hs'=>⟨.ref D,H',I'.turned (t':=s'.toks) (fun b o hb e=>(hs'.2 b hb).trans e) c0 c1 (.inr c2) c3 c4,rfl,q⟩⟩
end
section
variable {X:Cx} {K:PySem.W.Frag}
def E4:R2:=fun x y H Q=>∃ z n,x=.str z/\y=.int n/\z.length<=4000/\-(2 ^ 63)<=n/\n<=4000/\Q (.str (Txt.mul z n)) H
def op_mulS:OpR X (binaryOp .Mult) E4:=by
 intro pins s σ H x y v u Q I rx ry h;obtain ⟨z,n,rfl,rfl,hz,h0,h1,q⟩:=h;obtain ⟨t,rfl⟩:=rx;obtain ⟨t2,rfl⟩:=ry;exact SB.mul (mulOk_of 4000 4000 hz h1 h0 (by decide) (by decide)) fun t' k=>⟨.str _,H,I.tok _,⟨_,rfl⟩,q⟩
def jY (ns:List Int):∀ k,k<=ns.length->preSum (fun i=>ns.getD i 0) k=(ns.take k).sum
 | 0,_=>rfl
 | k+1,h=>by
  show preSum (fun i=>ns.getD i 0) k+ns.getD k 0=_;rw [jY ns k (by omega),PyProof.Rows.take_sum_succ ns k (by omega)]
end
mutual
def DV (H:Hp):V->PyData->Prop
 | v,.none=>v=.non
 | v,.bool b=>v=.bl b
 | v,.int i=>v=.int i
 | v,.str x=>v=.str x
 | v,.list ds=>∃ a xs,v=.ref a/\H a=some (.lst xs)/\DVs H xs ds
 | v,.tuple ds=>∃ a xs,v=.ref a/\H a=some (.tup xs)/\DVs H xs ds
 | _,.dict _=>False
def DVs (H:Hp):List V->List PyData->Prop
 | vs,[]=>vs=[]
 | vs,d :: ds=>∃ v r,vs=v :: r/\DV H v d/\DVs H r ds
end
mutual
theorem DV.same {H H':Hp} (s:ES H H'):∀ {v:V} (d:PyData),DV H v d->DV H' v d
 | _,.none,h=>by simpa [DV] using h
 | _,.bool _,h=>by simpa [DV] using h
 | _,.int _,h=>by simpa [DV] using h
 | _,.str _,h=>by simpa [DV] using h
 | _,.list ds,h=>by
  unfold DV at h ⊢;obtain ⟨a,xs,e,h1,h2⟩:=h;exact ⟨a,xs,e,s _ _ h1,DVs.same s ds h2⟩
 | _,.tuple ds,h=>by
  unfold DV at h ⊢;obtain ⟨a,xs,e,h1,h2⟩:=h;exact ⟨a,xs,e,s _ _ h1,DVs.same s ds h2⟩
 | _,.dict _,h=>by
  unfold DV at h;exact h.elim
theorem DVs.same {H H':Hp} (s:ES H H'):∀ {vs:List V} (ds:List PyData),DVs H vs ds->DVs H' vs ds
 | _,[],h=>by
  unfold DVs at h ⊢;exact h
 | _,d :: ds,h=>by
  unfold DVs at h ⊢;obtain ⟨v,r,e,h1,h2⟩:=h;exact ⟨v,r,e,DV.same s d h1,DVs.same s ds h2⟩
end
section
variable {X:Cx} {pins:List (Addr × Obj)} {σ:St} {H:Hp} {s:Shared}
mutual
theorem DV.reads (I:Inv X pins σ H s):∀ {v:V} {u:Value} (d:PyData),DV H v d->RelV v u->∃ as,Reads s.heap u d as
 | _,_,.none,h,r=>by
  unfold DV at h;subst h;cases r;exact ⟨_,.none⟩
 | _,_,.bool b,h,r=>by
  unfold DV at h;subst h;cases r;exact ⟨_,.bool _⟩
 | _,_,.int i,h,r=>by
  unfold DV at h;subst h;obtain ⟨t,rfl⟩:=r;exact ⟨_,.int _ _⟩
 | _,_,.str x,h,r=>by
  unfold DV at h;subst h;obtain ⟨t,rfl⟩:=r;exact ⟨_,.str _ _⟩
 | _,_,.list ds,h,r=>by
  unfold DV at h;obtain ⟨a,xs,rfl,h1,h2⟩:=h;cases r;obtain ⟨its,rv,⟨o,n,e1,e2,_,e3⟩,_⟩:=I.list (SqL.of h1);obtain ⟨as,ra⟩:=DVs.reads I ds h2 rv;exact ⟨_,.list e1 e2 e3 (by simpa using ra)⟩
 | _,_,.tuple ds,h,r=>by
  unfold DV at h;obtain ⟨a,xs,rfl,h1,h2⟩:=h;cases r;obtain ⟨its,rv,⟨o,e1,e2,n,e3⟩,_⟩:=I.tuple (SqT.of h1);obtain ⟨as,ra⟩:=DVs.reads I ds h2 rv;exact ⟨_,.tuple e1 e2 e3 (by simpa using ra)⟩
 | _,_,.dict _,h,_=>by
  unfold DV at h;exact h.elim
theorem DVs.reads (I:Inv X pins σ H s):∀ {vs:List V} {us:List Value} (ds:List PyData),DVs H vs ds->Vals vs us->∃ as,ReadsAll s.heap us ds as
 | _,_,[],h,r=>by
  unfold DVs at h;subst h;cases r;exact ⟨_,.nil⟩
 | _,_,d :: ds,h,r=>by
  unfold DVs at h;obtain ⟨v,t,rfl,h1,h2⟩:=h;cases r with
  | cons ru rr =>
   obtain ⟨as,a1⟩:=DV.reads I d h1 ru;obtain ⟨bs,a2⟩:=DVs.reads I ds h2 rr;exact ⟨_,.cons a1 a2⟩
end
end
mutual
theorem mn {H:Hp}:∀ {v:V} (d:PyData),DV H v d->d.hasDict=false
 | _,.none,_=>by simp only [PyData.hasDict]
 | _,.bool _,_=>by simp only [PyData.hasDict]
 | _,.int _,_=>by simp only [PyData.hasDict]
 | _,.str _,_=>by simp only [PyData.hasDict]
 | _,.list ds,h=>by
  unfold DV at h;obtain ⟨a,xs,e,h1,h2⟩:=h;simp only [PyData.hasDict];exact iN ds h2
 | _,.tuple ds,h=>by
  unfold DV at h;obtain ⟨a,xs,e,h1,h2⟩:=h;simp only [PyData.hasDict];exact iN ds h2
 | _,.dict _,h=>by
  unfold DV at h;exact h.elim
theorem iN {H:Hp}:∀ {vs:List V} (ds:List PyData),DVs H vs ds->PyData.hasDictAll ds=false
 | _,[],_=>by simp only [PyData.hasDictAll]
 | _,d :: ds,h=>by
  unfold DVs at h;obtain ⟨v,r,e,h1,h2⟩:=h;simp only [PyData.hasDictAll,mn d h1,iN ds h2,Bool.or_self]
end
section
variable {X:Cx}
def E3:List V->Hp->VK->Prop:=fun xs H Q=>∃ x d,xs=[x]/\DV H x d/\d.showable=true/\d.depth<=60/\d.shown.length<=sizeLine/\Q (.str d.shown) H
def re (hg:X.A.guards=some []) (hu:X.A.units+64 < cLine):CallR X (.builtin "repr") E3:=by
 intro pins s σ H xs us Q I r h;obtain ⟨x,d,rfl,hd,hsh,hdp,hsz,q⟩:=h;obtain ⟨u,rfl,ru⟩:=da r;have nd:=mn d hd;obtain ⟨as,rd⟩:=DV.reads I d hd ru;cases d with
 | none =>
  unfold DV at hd;subst hd;cases ru;have e:(PyData.none).shown=("None" : Str):=PyData.shown_none;rw [e] at q;exact P.repr_of_none ⟨.str _,H,I.tok _,⟨_,rfl⟩,q⟩
 | bool b =>
  unfold DV at hd;subst hd;cases ru;have e:(PyData.bool b).shown=(if b then "True" else "False" : Str):=PyData.shown_bool b;rw [e] at q;exact P.repr_of_bool ⟨.str (if b then "True" else "False"),H,I.tok _,⟨_,rfl⟩,q⟩
 | int i =>
  unfold DV at hd;subst hd;obtain ⟨t,rfl⟩:=ru;have e:(PyData.int i).shown=((toString i:String):Str):=PyData.shown_int i;rw [e] at q;have hl:i.natAbs.log2 < 1920:=by simpa [PyData.showable] using hsh
  exact P.repr_of_int hl ⟨.str _,H,I.tok _,⟨_,rfl⟩,q⟩
 | str y =>
  unfold DV at hd;subst hd;obtain ⟨t,rfl⟩:=ru;have e:(PyData.str y).shown=reprText y:=PyData.shown_str y;rw [e] at q hsz;exact P.repr_of_str ⟨.str _,H,I.tok _,⟨_,rfl⟩,q⟩ hsz
 | list ds =>
  have hd':=hd;unfold DV at hd';obtain ⟨a,ys,rfl,_,_⟩:=hd';cases ru;exact repr_of_reads' rd hsh (PyData.noDict_hsm nd) hg (by omega) (fun _ _ e=>e) (fun h' u tk hk=>⟨.str _,H,I.kept (t':=tk) hk,⟨_,rfl⟩,q⟩) hsz
 | tuple ds =>
  have hd':=hd;unfold DV at hd';obtain ⟨a,ys,rfl,_,_⟩:=hd';cases ru;exact repr_of_reads' rd hsh (PyData.noDict_hsm nd) hg (by omega) (fun _ _ e=>e) (fun h' u tk hk=>⟨.str _,H,I.kept (t':=tk) hk,⟨_,rfl⟩,q⟩) hsz
 | dict _ =>
  unfold DV at hd;exact hd.elim
end
section
variable {prog:Program} {w:World} {A:Around} {E:Value->Shared->Prop} {s:Shared}
end
section
variable {X:Cx} {K:PySem.W.Frag}
end
section
open PySem.SeqAt
end
def Rp (H:Hp) (v:V) (txt:Str):Prop:=(∃ d,DV H v d/\d.showable=true/\d.depth<=60/\d.shown.length<=sizeLine/\txt=d.shown)\/∃ a,v=.ref a/\H a=some (.dK [])/\txt=("{}" : Str)
section
variable {X:Cx}
def Db:List V->Hp->VK->Prop:=fun xs H Q=>∃ x txt,xs=[x]/\Rp H x txt/\Q (.str txt) H
def pS (hg:X.A.guards=some []) (hu:X.A.units+64 < cLine):CallR X (.builtin "repr") Db:=by
 intro pins s σ H xs us Q I r h;obtain ⟨x,txt,rfl,hd,q⟩:=h;rcases hd with ⟨d,h1,h2,h3,h4,rfl⟩ | ⟨a,rfl,ha,rfl⟩
 ·exact re hg hu pins s σ H _ us Q I r ⟨x,d,rfl,h1,h2,h3,h4,q⟩
 ·obtain ⟨u,rfl,ru⟩:=da r;cases ru;obtain ⟨_,hsys,vs,kv,dd⟩:=pP I.hok ha;have hv:vs=[]:=by
   have e:=KV.length kv;exact za6.mp e.symm
  subst hv;have rd:Reads s.heap (.ref a) (.dict []) (a :: []++[]):=by
   obtain ⟨o,es,n,g1,g2,g3,_,g5,_⟩:=dd;have h0:es.toList=[]:=by
    generalize es.toList=L at g5;cases g5;rfl
   refine .dict g1 g2.1 g3 ?_ ?_
   ·rw [h0];exact .nil
   ·rw [h0];exact .nil
  have e:(PyData.dict []).shown=("{}" : Str):=by decide +kernel
  refine repr_of_reads' rd (by decide +kernel) (fun _ hm=>?_) hg (by show X.A.units+(1+1) < cLine; omega) (fun _ _ e=>e) (fun h' u tk hk=>⟨.str _,H,I.kept (t':=tk) hk,⟨_,rfl⟩,?_⟩) (by rw [e]; decide)
  ·have hm':sysModules=a:=by simpa using hm
   rw [<- hm'] at hsys;simp at hsys
  ·rw [e];exact q
end
abbrev D:=PyData
abbrev En:=List (Option D)
abbrev AS:=Addr->Prop
def dn:Nat->Nat
 | 0=>0
 | 1=>0
 | 2=>1
 | n+3=>n+3
def lN:∀ {a b:Nat},a<=b->dn a<=dn b
 | 0,_,_=>Nat.zero_le _
 | 1,_,_=>Nat.zero_le _
 | 2,2,_=>zav _
 | 2,b+3,_=>by show 1<=b+3; omega
 | a+3,b+3,h=>h
 | a+3,0,h=>by omega
 | a+3,1,h=>by omega
 | a+3,2,h=>by omega
 | 2,0,h=>by omega
 | 2,1,h=>by omega
def kD:Key->D
 | .inl i=>.int i
 | .inr x=>.str x
def FzL (K:PySem.W.Frag) (O:AS) (H:Hp) (a:Addr) (vs:List V):Prop:=(Rd H a (.lst vs)/\¬ O a)\/∀ H',SqL K H' a vs
def FzT (K:PySem.W.Frag) (O:AS) (H:Hp) (a:Addr) (vs:List V):Prop:=H a=some (.tup vs)/\¬ O a
def FzL.sq {K:PySem.W.Frag} {O:AS} {H:Hp} {a:Addr} {vs:List V} (h:FzL K O H a vs):SqL K H a vs:=h.elim (fun h=>.inl h.1) fun h=>h H
def FzT.sq {K:PySem.W.Frag} {O:AS} {H:Hp} {a:Addr} {vs:List V} (h:FzT K O H a vs):SqT K H a vs:=SqT.of h.1
def EL (a C:Addr):Heap->Prop:=fun h=>∃ o,h.get? a=some o/\o.cls=.ref C/\∀ c,o.data≠.cls c
def TupD (K:PySem.W.Frag) (H:Hp) (O:AS) (ks:List (D × D)) (a:Addr):Prop:=(∃ (kk:List Key) (b:Bool),ks=[(.tuple (kk.map kD),.bool b)]/\H a=some (.dT [(kk,.bl b)])/\¬ O a) \/
 ∃ (x:Str) (C:Addr),ks=[(.none,.str x)]/\PySem.W.nsIn K mainGlobals x=some (some (.ref C))/\H a=some (.ext (EL a C))/\¬ O a
def TupD.to {K:PySem.W.Frag} {H H':Hp} {O O':AS} {ks:List (D × D)} {a:Addr} (h:TupD K H O ks a) (k:∀ o,H a=some o->¬ O a->H' a=some o/\¬ O' a):TupD K H' O' ks a:=by
 rcases h with ⟨kk,b,h1,h2,h3⟩ | ⟨x,C,h1,h0,h2,h3⟩
 ·obtain ⟨g1,g2⟩:=k _ h2 h3;exact .inl ⟨kk,b,h1,g1,g2⟩
 ·obtain ⟨g1,g2⟩:=k _ h2 h3;exact .inr ⟨x,C,h1,h0,g1,g2⟩
mutual
def Ow (K:PySem.W.Frag) (O:AS) (H:Hp):D->Nat->V->AS->Prop
 | .none,_,v,_=>v=.non
 | .bool b,_,v,_=>v=.bl b
 | .int i,_,v,_=>v=.int i
 | .str x,_,v,_=>v=.str x
 | .tuple ts,d,v,F=>∃ a vs,v=.ref a/\((d=0/\FzT K O H a vs/\Ows K O H ts 0 vs F)\/(d≠0/\H a=some (.tup vs)/\F a/\∃ F':AS,(∀ b,F' b->F b/\b≠a)/\Ows K O H ts (dn d) vs F'))
 | .list ts,d,v,F=>∃ a vs,v=.ref a/\((d=0/\FzL K O H a vs/\Ows K O H ts 0 vs F)\/(d≠0/\H a=some (.lst vs)/\F a/\∃ F':AS,(∀ b,F' b->F b/\b≠a)/\Ows K O H ts (dn d) vs F'))
 | .dict ks,d,v,F=>∃ a vs,v=.ref a/\((d=0/\H a=some (.dK vs)/\¬ O a/\Owd K O H ks 0 vs F)\/(d≠0/\H a=some (.dK vs)/\F a/\∃ F':AS,(∀ b,F' b->F b/\b≠a)/\Owd K O H ks (dn d) vs F')\/(d=0/\TupD K H O ks a))
def Ows (K:PySem.W.Frag) (O:AS) (H:Hp):List D->Nat->List V->AS->Prop
 | [],_,vs,_=>vs=[]
 | t :: ts,d,vs,F=>∃ v r,∃ F1 F2:AS,vs=v :: r/\(∀ b,F1 b->F b)/\(∀ b,F2 b->F b)/\(∀ b,F1 b->¬ F2 b)/\Ow K O H t d v F1/\Ows K O H ts d r F2
def Owd (K:PySem.W.Frag) (O:AS) (H:Hp):List (D × D)->Nat->List (Key × V)->AS->Prop
 | [],_,vs,_=>vs=[]
 | (k,t) :: ts,d,vs,F=>∃ q v r,∃ F1 F2:AS,vs=(q,v) :: r/\k=kD q/\(∀ b,F1 b->F b)/\(∀ b,F2 b->F b)/\(∀ b,F1 b->¬ F2 b)/\Ow K O H t d v F1/\Owd K O H ts d r F2
end
section
variable {K:PySem.W.Frag} {O O':AS} {H H':Hp}
def Rd.mv {a:Addr} {u:HO} (hk:∀ o,H a=some o->H' a=some o) (h:Rd H a u):Rd H' a u:=by
 rcases h with h | ⟨o,h⟩
 ·exact .inl (hk _ h)
 ·exact .inr ⟨o,hk _ h⟩
def Rd.there {a:Addr} {u:HO} (h:Rd H a u):H a≠none:=by
 rcases h with h | ⟨o,h⟩ <;> rw [h] <;> exact fun z=>nomatch z
structure Mv (O O':AS) (G:AS) (H H':Hp):Prop where
 k:∀ a o,H a=some o->(¬ O a\/G a)->H' a=some o
 o:∀ a,O' a->O a\/H a=none
def FzL.mv {G:AS} {a:Addr} {vs:List V} (m:Mv O O' G H H') (h:FzL K O H a vs):FzL K O' H' a vs:=by
 rcases h with ⟨h,n⟩ | h
 ·refine .inl ⟨h.mv fun o e=>m.k _ _ e (.inl n),fun z=>?_⟩;rcases m.o _ z with z | z
  ·exact n z
  ·exact h.there z
 ·exact .inr h
def FzT.mv {G:AS} {a:Addr} {vs:List V} (m:Mv O O' G H H') (h:FzT K O H a vs):FzT K O' H' a vs:=by
 obtain ⟨h,n⟩:=h;refine ⟨m.k _ _ h (.inl n),fun z=>?_⟩;rcases m.o _ z with z | z
 ·exact n z
 ·rw [h] at z; cases z
mutual
theorem Ow.mv {G:AS} (m:Mv O O' G H H'):∀ (t:D) {d:Nat} {v:V} {F:AS},(∀ b,F b->G b)->Ow K O H t d v F->Ow K O' H' t d v F
 | .none,_,_,_,_,h=>h
 | .bool _,_,_,_,_,h=>h
 | .int _,_,_,_,_,h=>h
 | .str _,_,_,_,_,h=>h
 | .tuple ts,_,_,_,g,h=>by
  obtain ⟨a,vs,e,⟨h0,h1,h2⟩ | ⟨h0,h1,h2,F',hf,h3⟩⟩:=h
  ·exact ⟨a,vs,e,.inl ⟨h0,h1.mv m,Ows.mv m ts g h2⟩⟩
  ·exact ⟨a,vs,e,.inr ⟨h0,m.k _ _ h1 (.inr (g _ h2)),h2,F',hf,Ows.mv m ts (fun b hb=>g _ (hf b hb).1) h3⟩⟩
 | .list ts,_,_,_,g,h=>by
  obtain ⟨a,vs,e,⟨h0,h1,h2⟩ | ⟨h0,h1,h2,F',hf,h3⟩⟩:=h
  ·exact ⟨a,vs,e,.inl ⟨h0,h1.mv m,Ows.mv m ts g h2⟩⟩
  ·exact ⟨a,vs,e,.inr ⟨h0,m.k _ _ h1 (.inr (g _ h2)),h2,F',hf,Ows.mv m ts (fun b hb=>g _ (hf b hb).1) h3⟩⟩
 | .dict ks,_,_,_,g,h=>by
  obtain ⟨a,vs,e,⟨h0,h1,hn,h2⟩ | ⟨h0,h1,h2,F',hf,h3⟩ | ⟨h0,ht⟩⟩:=h
  ·refine ⟨a,vs,e,.inl ⟨h0,m.k _ _ h1 (.inl hn),fun z=>?_,Owd.mv m ks g h2⟩⟩;rcases m.o _ z with z | z
   ·exact hn z
   ·rw [h1] at z; cases z
  ·exact ⟨a,vs,e,.inr (.inl ⟨h0,m.k _ _ h1 (.inr (g _ h2)),h2,F',hf,Owd.mv m ks (fun b hb=>g _ (hf b hb).1) h3⟩)⟩
  ·refine ⟨a,vs,e,.inr (.inr ⟨h0,ht.to fun o h2 hn=>⟨m.k _ _ h2 (.inl hn),fun z=>?_⟩⟩)⟩;rcases m.o _ z with z | z
   ·exact hn z
   ·rw [h2] at z; cases z
theorem Ows.mv {G:AS} (m:Mv O O' G H H'):∀ (ts:List D) {d:Nat} {vs:List V} {F:AS},(∀ b,F b->G b)->Ows K O H ts d vs F->Ows K O' H' ts d vs F
 | [],_,_,_,_,h=>h
 | t :: ts,_,_,_,g,h=>by
  obtain ⟨v,r,F1,F2,e,h1,h2,h3,h4,h5⟩:=h;exact ⟨v,r,F1,F2,e,h1,h2,h3,Ow.mv m t (fun b hb=>g _ (h1 b hb)) h4,Ows.mv m ts (fun b hb=>g _ (h2 b hb)) h5⟩
theorem Owd.mv {G:AS} (m:Mv O O' G H H'):∀ (ts:List (D × D)) {d:Nat} {vs:List (Key × V)} {F:AS},(∀ b,F b->G b)->Owd K O H ts d vs F->Owd K O' H' ts d vs F
 | [],_,_,_,_,h=>h
 | (k,t) :: ts,_,_,_,g,h=>by
  obtain ⟨q,v,r,F1,F2,e,e2,h1,h2,h3,h4,h5⟩:=h;exact ⟨q,v,r,F1,F2,e,e2,h1,h2,h3,Ow.mv m t (fun b hb=>g _ (h1 b hb)) h4,Owd.mv m ts (fun b hb=>g _ (h2 b hb)) h5⟩
end
def FzL.sub {a:Addr} {vs:List V} (ho:∀ a,O' a->O a) (h:FzL K O H a vs):FzL K O' H a vs:=h.imp (fun h=>⟨h.1,fun z=>h.2 (ho _ z)⟩) id
def FzT.sub {a:Addr} {vs:List V} (ho:∀ a,O' a->O a) (h:FzT K O H a vs):FzT K O' H a vs:=⟨h.1,fun z=>h.2 (ho _ z)⟩
mutual
theorem Ow.cut:∀ (t:D) {d d':Nat} {v:V} {F:AS},d'<=d->Ow K O H t d v F->∃ F':AS,(∀ b,F' b->F b)/\∀ O':AS,(∀ a,O' a->O a)->(∀ a,F a->O' a->F' a)->Ow K O' H t d' v F'
 | .none,_,_,_,F,_,h=>⟨F,fun _ z=>z,fun _ _ _=>h⟩
 | .bool _,_,_,_,F,_,h=>⟨F,fun _ z=>z,fun _ _ _=>h⟩
 | .int _,_,_,_,F,_,h=>⟨F,fun _ z=>z,fun _ _ _=>h⟩
 | .str _,_,_,_,F,_,h=>⟨F,fun _ z=>z,fun _ _ _=>h⟩
 | .tuple ts,d,d',_,F,hd,h=>by
  obtain ⟨a,vs,e,⟨h0,h1,h2⟩ | ⟨h0,h1,h2,G,hg,h3⟩⟩:=h
  ·subst h0;have e0:d'=0:=by omega
   subst e0;obtain ⟨F',s1,s2⟩:=Ows.cut ts (zav _) h2;exact ⟨F',s1,fun O' ho hx=>⟨a,vs,e,.inl ⟨rfl,h1.sub ho,s2 O' ho hx⟩⟩⟩
  ·by_cases e0:d'=0
   ·subst e0;obtain ⟨F',s1,s2⟩:=Ows.cut ts (Nat.zero_le _) h3;refine ⟨F',fun b hb=>(hg _ (s1 b hb)).1,fun O' ho hx=>⟨a,vs,e,.inl ⟨rfl,⟨h1,fun z=>(hg _ (s1 _ (hx _ h2 z))).2 rfl⟩,s2 O' ho fun b hb=>hx b (hg b hb).1⟩⟩⟩
   ·obtain ⟨F',s1,s2⟩:=Ows.cut ts (lN hd) h3;refine ⟨fun b=>b=a\/F' b,fun b hb=>hb.elim (fun z=>z ▸ h2) fun z=>(hg _ (s1 b z)).1,fun O' ho hx=>⟨a,vs,e,.inr ⟨e0,h1,.inl rfl,F',fun b hb=>⟨.inr hb,(hg _ (s1 b hb)).2⟩,s2 O' ho fun b hb hz=>?_⟩⟩⟩;exact (hx b (hg b hb).1 hz).elim (fun z=>absurd z (hg b hb).2) id
 | .list ts,d,d',_,F,hd,h=>by
  obtain ⟨a,vs,e,⟨h0,h1,h2⟩ | ⟨h0,h1,h2,G,hg,h3⟩⟩:=h
  ·subst h0;have e0:d'=0:=by omega
   subst e0;obtain ⟨F',s1,s2⟩:=Ows.cut ts (zav _) h2;exact ⟨F',s1,fun O' ho hx=>⟨a,vs,e,.inl ⟨rfl,h1.sub ho,s2 O' ho hx⟩⟩⟩
  ·by_cases e0:d'=0
   ·subst e0;obtain ⟨F',s1,s2⟩:=Ows.cut ts (Nat.zero_le _) h3;refine ⟨F',fun b hb=>(hg _ (s1 b hb)).1,fun O' ho hx=>⟨a,vs,e,.inl ⟨rfl,.inl ⟨.inl h1,fun z=>(hg _ (s1 _ (hx _ h2 z))).2 rfl⟩,s2 O' ho fun b hb=>hx b (hg b hb).1⟩⟩⟩
   ·obtain ⟨F',s1,s2⟩:=Ows.cut ts (lN hd) h3;refine ⟨fun b=>b=a\/F' b,fun b hb=>hb.elim (fun z=>z ▸ h2) fun z=>(hg _ (s1 b z)).1,fun O' ho hx=>⟨a,vs,e,.inr ⟨e0,h1,.inl rfl,F',fun b hb=>⟨.inr hb,(hg _ (s1 b hb)).2⟩,s2 O' ho fun b hb hz=>?_⟩⟩⟩;exact (hx b (hg b hb).1 hz).elim (fun z=>absurd z (hg b hb).2) id
 | .dict ts,d,d',_,F,hd,h=>by
  obtain ⟨a,vs,e,⟨h0,h1,hn,h2⟩ | ⟨h0,h1,h2,G,hg,h3⟩ | ⟨h0,ht⟩⟩:=h
  ·subst h0;have e0:d'=0:=by omega
   subst e0;obtain ⟨F',s1,s2⟩:=Owd.cut ts (zav _) h2;exact ⟨F',s1,fun O' ho hx=>⟨a,vs,e,.inl ⟨rfl,h1,fun z=>hn (ho _ z),s2 O' ho hx⟩⟩⟩
  ·by_cases e0:d'=0
   ·subst e0;obtain ⟨F',s1,s2⟩:=Owd.cut ts (Nat.zero_le _) h3;refine ⟨F',fun b hb=>(hg _ (s1 b hb)).1,fun O' ho hx=>⟨a,vs,e,.inl ⟨rfl,h1,fun z=>(hg _ (s1 _ (hx _ h2 z))).2 rfl,s2 O' ho fun b hb=>hx b (hg b hb).1⟩⟩⟩
   ·obtain ⟨F',s1,s2⟩:=Owd.cut ts (lN hd) h3;refine ⟨fun b=>b=a\/F' b,fun b hb=>hb.elim (fun z=>z ▸ h2) fun z=>(hg _ (s1 b z)).1,fun O' ho hx=>⟨a,vs,e,.inr (.inl ⟨e0,h1,.inl rfl,F',fun b hb=>⟨.inr hb,(hg _ (s1 b hb)).2⟩,s2 O' ho fun b hb hz=>?_⟩)⟩⟩;exact (hx b (hg b hb).1 hz).elim (fun z=>absurd z (hg b hb).2) id
  ·subst h0;have e0:d'=0:=by omega
   subst e0;exact ⟨F,fun _ z=>z,fun O' ho hx=>⟨a,vs,e,.inr (.inr ⟨rfl,ht.to fun o h2 hn=>⟨h2,fun z=>hn (ho _ z)⟩⟩)⟩⟩
theorem Ows.cut:∀ (ts:List D) {d d':Nat} {vs:List V} {F:AS},d'<=d->Ows K O H ts d vs F->∃ F':AS,(∀ b,F' b->F b)/\∀ O':AS,(∀ a,O' a->O a)->(∀ a,F a->O' a->F' a)->Ows K O' H ts d' vs F'
 | [],_,_,_,F,_,h=>⟨F,fun _ z=>z,fun _ _ _=>h⟩
 | t :: ts,_,_,_,F,hd,h=>by
  obtain ⟨v,r,F1,F2,e,h1,h2,h3,h4,h5⟩:=h;obtain ⟨G1,a1,a2⟩:=Ow.cut t hd h4;obtain ⟨G2,b1,b2⟩:=Ows.cut ts hd h5;refine ⟨fun b=>G1 b\/G2 b,fun b hb=>hb.elim (fun z=>h1 _ (a1 _ z)) fun z=>h2 _ (b1 _ z),fun O' ho hx=>⟨v,r,G1,G2,e,fun b=>.inl,fun b=>.inr,fun b z1 z2=>h3 b (a1 b z1) (b1 b z2),a2 O' ho fun b hb hz=>?_,b2 O' ho fun b hb hz=>?_⟩⟩
  ·exact (hx b (h1 b hb) hz).elim id fun z=>absurd (b1 b z) (h3 b hb)
  ·exact (hx b (h2 b hb) hz).elim (fun z=>absurd hb (h3 b (a1 b z))) id
theorem Owd.cut:∀ (ts:List (D × D)) {d d':Nat} {vs:List (Key × V)} {F:AS},d'<=d->Owd K O H ts d vs F->∃ F':AS,(∀ b,F' b->F b)/\∀ O':AS,(∀ a,O' a->O a)->(∀ a,F a->O' a->F' a)->Owd K O' H ts d' vs F'
 | [],_,_,_,F,_,h=>⟨F,fun _ z=>z,fun _ _ _=>h⟩
 | (k,t) :: ts,_,_,_,F,hd,h=>by
  obtain ⟨q,v,r,F1,F2,e,e2,h1,h2,h3,h4,h5⟩:=h;obtain ⟨G1,a1,a2⟩:=Ow.cut t hd h4;obtain ⟨G2,b1,b2⟩:=Owd.cut ts hd h5;refine ⟨fun b=>G1 b\/G2 b,fun b hb=>hb.elim (fun z=>h1 _ (a1 _ z)) fun z=>h2 _ (b1 _ z),fun O' ho hx=>⟨q,v,r,G1,G2,e,e2,fun b=>.inl,fun b=>.inr,fun b z1 z2=>h3 b (a1 b z1) (b1 b z2),a2 O' ho fun b hb hz=>?_,b2 O' ho fun b hb hz=>?_⟩⟩
  ·exact (hx b (h1 b hb) hz).elim id fun z=>absurd (b1 b z) (h3 b hb)
  ·exact (hx b (h2 b hb) hz).elim (fun z=>absurd hb (h3 b (a1 b z))) id
end
mutual
theorem Ow.grow (ho:∀ a,O' a->O a):∀ (t:D) {d:Nat} {v:V} {F F':AS},(∀ b,F b->F' b)->Ow K O H t d v F->Ow K O' H t d v F'
 | .none,_,_,_,_,_,h=>h
 | .bool _,_,_,_,_,_,h=>h
 | .int _,_,_,_,_,_,h=>h
 | .str _,_,_,_,_,_,h=>h
 | .tuple ts,_,_,_,_,hf,h=>by
  obtain ⟨a,vs,e,⟨h0,h1,h2⟩ | ⟨h0,h1,h2,G,hg,h3⟩⟩:=h
  ·exact ⟨a,vs,e,.inl ⟨h0,h1.sub ho,Ows.grow ho ts hf h2⟩⟩
  ·exact ⟨a,vs,e,.inr ⟨h0,h1,hf _ h2,G,fun b hb=>⟨hf _ (hg b hb).1,(hg b hb).2⟩,Ows.grow ho ts (fun _ z=>z) h3⟩⟩
 | .list ts,_,_,_,_,hf,h=>by
  obtain ⟨a,vs,e,⟨h0,h1,h2⟩ | ⟨h0,h1,h2,G,hg,h3⟩⟩:=h
  ·exact ⟨a,vs,e,.inl ⟨h0,h1.sub ho,Ows.grow ho ts hf h2⟩⟩
  ·exact ⟨a,vs,e,.inr ⟨h0,h1,hf _ h2,G,fun b hb=>⟨hf _ (hg b hb).1,(hg b hb).2⟩,Ows.grow ho ts (fun _ z=>z) h3⟩⟩
 | .dict ts,_,_,_,_,hf,h=>by
  obtain ⟨a,vs,e,⟨h0,h1,hn,h2⟩ | ⟨h0,h1,h2,G,hg,h3⟩ | ⟨h0,ht⟩⟩:=h
  ·exact ⟨a,vs,e,.inl ⟨h0,h1,fun z=>hn (ho _ z),Owd.grow ho ts hf h2⟩⟩
  ·exact ⟨a,vs,e,.inr (.inl ⟨h0,h1,hf _ h2,G,fun b hb=>⟨hf _ (hg b hb).1,(hg b hb).2⟩,Owd.grow ho ts (fun _ z=>z) h3⟩)⟩
  ·exact ⟨a,vs,e,.inr (.inr ⟨h0,ht.to fun o h2 hn=>⟨h2,fun z=>hn (ho _ z)⟩⟩)⟩
theorem Ows.grow (ho:∀ a,O' a->O a):∀ (ts:List D) {d:Nat} {vs:List V} {F F':AS},(∀ b,F b->F' b)->Ows K O H ts d vs F->Ows K O' H ts d vs F'
 | [],_,_,_,_,_,h=>h
 | t :: ts,_,_,_,_,hf,h=>by
  obtain ⟨v,r,F1,F2,e,h1,h2,h3,h4,h5⟩:=h;exact ⟨v,r,F1,F2,e,fun b z=>hf _ (h1 b z),fun b z=>hf _ (h2 b z),h3,Ow.grow ho t (fun _ z=>z) h4,Ows.grow ho ts (fun _ z=>z) h5⟩
theorem Owd.grow (ho:∀ a,O' a->O a):∀ (ts:List (D × D)) {d:Nat} {vs:List (Key × V)} {F F':AS},(∀ b,F b->F' b)->Owd K O H ts d vs F->Owd K O' H ts d vs F'
 | [],_,_,_,_,_,h=>h
 | (k,t) :: ts,_,_,_,_,hf,h=>by
  obtain ⟨q,v,r,F1,F2,e,e2,h1,h2,h3,h4,h5⟩:=h;exact ⟨q,v,r,F1,F2,e,e2,fun b z=>hf _ (h1 b z),fun b z=>hf _ (h2 b z),h3,Ow.grow ho t (fun _ z=>z) h4,Owd.grow ho ts (fun _ z=>z) h5⟩
end
mutual
theorem Ow.full:∀ (t:D) {d:Nat} {v:V} {F:AS},Ow K O H t (d+3) v F->Ow K O' H t (d+3) v F
 | .none,_,_,_,h=>h
 | .bool _,_,_,_,h=>h
 | .int _,_,_,_,h=>h
 | .str _,_,_,_,h=>h
 | .tuple ts,_,_,_,h=>by
  obtain ⟨a,vs,e,⟨h0,h1,h2⟩ | ⟨h0,h1,h2,G,hg,h3⟩⟩:=h
  ·cases h0
  ·exact ⟨a,vs,e,.inr ⟨h0,h1,h2,G,hg,Ows.full ts h3⟩⟩
 | .list ts,_,_,_,h=>by
  obtain ⟨a,vs,e,⟨h0,h1,h2⟩ | ⟨h0,h1,h2,G,hg,h3⟩⟩:=h
  ·cases h0
  ·exact ⟨a,vs,e,.inr ⟨h0,h1,h2,G,hg,Ows.full ts h3⟩⟩
 | .dict ts,_,_,_,h=>by
  obtain ⟨a,vs,e,⟨h0,h1,hn,h2⟩ | ⟨h0,h1,h2,G,hg,h3⟩ | ⟨h0,_⟩⟩:=h
  ·cases h0
  ·exact ⟨a,vs,e,.inr (.inl ⟨h0,h1,h2,G,hg,Owd.full ts h3⟩)⟩
  ·cases h0
theorem Ows.full:∀ (ts:List D) {d:Nat} {vs:List V} {F:AS},Ows K O H ts (d+3) vs F->Ows K O' H ts (d+3) vs F
 | [],_,_,_,h=>h
 | t :: ts,_,_,_,h=>by
  obtain ⟨v,r,F1,F2,e,h1,h2,h3,h4,h5⟩:=h;exact ⟨v,r,F1,F2,e,h1,h2,h3,Ow.full t h4,Ows.full ts h5⟩
theorem Owd.full:∀ (ts:List (D × D)) {d:Nat} {vs:List (Key × V)} {F:AS},Owd K O H ts (d+3) vs F->Owd K O' H ts (d+3) vs F
 | [],_,_,_,h=>h
 | (k,t) :: ts,_,_,_,h=>by
  obtain ⟨q,v,r,F1,F2,e,e2,h1,h2,h3,h4,h5⟩:=h;exact ⟨q,v,r,F1,F2,e,e2,h1,h2,h3,Ow.full t h4,Owd.full ts h5⟩
end
mutual
theorem Ow.any0:∀ (t:D) {v:V} {F F':AS},Ow K O H t 0 v F->Ow K O H t 0 v F'
 | .none,_,_,_,h=>h
 | .bool _,_,_,_,h=>h
 | .int _,_,_,_,h=>h
 | .str _,_,_,_,h=>h
 | .tuple ts,_,_,_,h=>by
  obtain ⟨a,vs,e,⟨h0,h1,h2⟩ | ⟨h0,_⟩⟩:=h
  ·exact ⟨a,vs,e,.inl ⟨rfl,h1,Ows.any0 ts h2⟩⟩
  ·exact absurd rfl h0
 | .list ts,_,_,_,h=>by
  obtain ⟨a,vs,e,⟨h0,h1,h2⟩ | ⟨h0,_⟩⟩:=h
  ·exact ⟨a,vs,e,.inl ⟨rfl,h1,Ows.any0 ts h2⟩⟩
  ·exact absurd rfl h0
 | .dict ts,_,_,_,h=>by
  obtain ⟨a,vs,e,⟨h0,h1,hn,h2⟩ | ⟨h0,_⟩ | ⟨_,ht⟩⟩:=h
  ·exact ⟨a,vs,e,.inl ⟨rfl,h1,hn,Owd.any0 ts h2⟩⟩
  ·exact absurd rfl h0
  ·exact ⟨a,vs,e,.inr (.inr ⟨rfl,ht⟩)⟩
theorem Ows.any0:∀ (ts:List D) {vs:List V} {F F':AS},Ows K O H ts 0 vs F->Ows K O H ts 0 vs F'
 | [],_,_,_,h=>h
 | t :: ts,_,_,_,h=>by
  obtain ⟨v,r,F1,F2,e,_,_,_,h4,h5⟩:=h;exact ⟨v,r,fun _=>False,fun _=>False,e,fun _ z=>z.elim,fun _ z=>z.elim,fun _ z=>z.elim,Ow.any0 t h4,Ows.any0 ts h5⟩
theorem Owd.any0:∀ (ts:List (D × D)) {vs:List (Key × V)} {F F':AS},Owd K O H ts 0 vs F->Owd K O H ts 0 vs F'
 | [],_,_,_,h=>h
 | (k,t) :: ts,_,_,_,h=>by
  obtain ⟨q,v,r,F1,F2,e,e2,_,_,_,h4,h5⟩:=h;exact ⟨q,v,r,fun _=>False,fun _=>False,e,e2,fun _ z=>z.elim,fun _ z=>z.elim,fun _ z=>z.elim,Ow.any0 t h4,Owd.any0 ts h5⟩
end
def Ow.fz {t:D} {d:Nat} {v:V} {F F2:AS} (ho:∀ a,O' a->O a) (hn:∀ a,F a->¬ O' a) (h:Ow K O H t d v F):Ow K O' H t 0 v F2:=by
 obtain ⟨F',s1,s2⟩:=Ow.cut t (Nat.zero_le d) h;exact Ow.any0 t (s2 O' ho fun a z1 z2=>absurd z2 (hn a z1))
end
def U (A B:AS):AS:=fun a=>A a\/B a
def Own (R:Nat->AS) (Ox:AS):AS:=fun a=>(∃ i,R i a)\/Ox a
def fV {A B:AS} (h:∀ a,A a↔B a):A=B:=funext fun a=>propext (h a)
structure EnvOk (K:PySem.W.Frag) (ds:List Nat) (Ox:AS) (H:Hp) (σ:St) (en:En) (R:Nat->AS):Prop where
 at_:∀ (i:Nat) (t:D),en[i]?=some (some t)->∃ v d,σ[i]?=some (some v)/\ds[i]?=some d/\Ow K (Own R Ox) H t d v (R i)
 dj:∀ i j a,R i a->R j a->i=j
 dx:∀ i a,R i a->¬ Ox a
 dom:∀ a,Own R Ox a->∃ o,H a=some o
 l1:en.length=σ.length
 l2:ds.length=σ.length
structure Post (K:PySem.W.Frag) (p:Bool) (ds':List Nat) (Ox:AS) (σ:St) (H:Hp) (en:En) (R:Nat->AS) (en':En) (H':Hp) (R':Nat->AS) (F:AS):Prop where
 env:EnvOk K ds' (U F Ox) H' σ en' R'
 fx:∀ a,F a->¬ Ox a
 keep:∀ a o,H a=some o->(∀ i,¬ R i a)->H' a=some o
 own:∀ a,(F a\/∃ i,R' i a)->(∃ i,R i a)\/H a=none
 dom:∀ a o,H a=some o->∃ o',H' a=some o'
 pure:p=true->en'=en/\R'=R/\∀ a o,H a=some o->H' a=some o
section
variable {K:PySem.W.Frag} {p p1 p2:Bool} {ds ds1 ds2 ds':List Nat} {Ox Ox':AS} {H H':Hp} {σ:St} {en en' en1 en2:En} {R R':Nat->AS} {d d1 d2:Nat} {t1 t2:D}
def EnvOk.grow (e:EnvOk K ds Ox H σ en R) (hk:∀ a o,H a=some o->H' a=some o) {F:AS} (hf:∀ a,F a->H a=none/\∃ o,H' a=some o):EnvOk K ds (U F Ox) H' σ en R:=by
 have fo:∀ a,F a->¬ Own R Ox a:=fun a z z2=>by
  obtain ⟨o,q⟩:=e.dom a z2;rw [(hf a z).1] at q;cases q
 refine ⟨fun i t h=>?_,e.dj,fun i a h z=>?_,fun a h=>?_,e.l1,e.l2⟩
 ·obtain ⟨v,d,h1,h2,h3⟩:=e.at_ i t h;refine ⟨v,d,h1,h2,Ow.mv (G:=R i) ⟨fun a o q _=>hk a o q,fun a z=>?_⟩ t (fun _ z=>z) h3⟩;rcases z with z | z | z
  ·exact .inl (.inl z)
  ·exact .inr (hf a z).1
  ·exact .inl (.inr z)
 ·rcases z with z | z
  ·exact fo a z (.inl ⟨i,h⟩)
  ·exact e.dx i a h z
 ·rcases h with h | h | h
  ·obtain ⟨o,q⟩:=e.dom a (.inl h);exact ⟨o,hk a o q⟩
  ·exact (hf a h).2
  ·obtain ⟨o,q⟩:=e.dom a (.inr h);exact ⟨o,hk a o q⟩
def EnvOk.fewer (e:EnvOk K ds Ox H σ en R) (h:∀ a,Ox' a->Ox a):EnvOk K ds Ox' H σ en R:=by
 refine ⟨fun i t q=>?_,e.dj,fun i a z1 z2=>e.dx i a z1 (h a z2),fun a z=>e.dom a (z.imp id (h a)),e.l1,e.l2⟩;obtain ⟨v,d,h1,h2,h3⟩:=e.at_ i t q;exact ⟨v,d,h1,h2,Ow.grow (fun a z=>z.imp id (h a)) t (fun _ z=>z) h3⟩
def tF (K:PySem.W.Frag) (p:Bool) (ds ds':List Nat) (d:Nat) (f:En->Option (D × En)):TE:=fun σ H Q =>
 ∃ Ox en R t en',EnvOk K ds Ox H σ en R/\f en=some (t,en')/\∀ v H' R' F,Post K p ds' Ox σ H en R en' H' R' F->Ow K (Own R' (U F Ox)) H' t d v F->Q v H'
def Post.refl (e:EnvOk K ds Ox H σ en R):Post K p ds Ox σ H en R en H R (fun _=>False):=by
 have eq:U (fun _=>False) Ox=Ox:=fV fun a=>⟨fun z=>z.elim (fun z=>z.elim) id,.inr⟩;exact ⟨eq.symm ▸ e,fun _ z=>z.elim,fun _ _ q _=>q,fun a z=>z.elim (fun z=>z.elim) .inl,fun a o q=>⟨o,q⟩,fun _=>⟨rfl,rfl,fun _ _ q=>q⟩⟩
def Post.new (e:EnvOk K ds Ox H σ en R) (hk:∀ a o,H a=some o->H' a=some o) {F:AS} (hf:∀ a,F a->H a=none/\∃ o,H' a=some o):Post K p ds Ox σ H en R en H' R F:=by
 refine ⟨e.grow hk hf,fun a z z2=>?_,fun a o q _=>hk a o q,fun a z=>z.elim (fun z=>.inr (hf a z).1) .inl,fun a o q=>⟨o,hk a o q⟩,fun _=>⟨rfl,rfl,hk⟩⟩;obtain ⟨o,q⟩:=e.dom a (.inr z2);rw [(hf a z).1] at q;cases q
def Post.trans {H1 H2:Hp} {R1 R2:Nat->AS} {F1 F2:AS} (P1:Post K p1 ds1 Ox σ H en R en1 H1 R1 F1) (P2:Post K p2 ds2 (U F1 Ox) σ H1 en1 R1 en2 H2 R2 F2) :
  Post K (p1 && p2) ds2 Ox σ H en R en2 H2 R2 (U F1 F2):=by
 have eq:U F2 (U F1 Ox)=U (U F1 F2) Ox:=fV fun a=>by unfold U; exact ⟨fun z=>by rcases z with z | z | z; exact .inl (.inr z); exact .inl (.inl z); exact .inr z,fun z=>by rcases z with (z | z) | z; exact .inr (.inl z); exact .inl z; exact .inr (.inr z)⟩
 have n1:∀ a,H1 a=none->H a=none:=fun a z=>by
  cases q:H a with
  | none=>rfl
  | some o =>
   obtain ⟨o',q'⟩:=P1.dom a o q;rw [z] at q';cases q'
 refine ⟨eq ▸ P2.env,fun a z z2=>?_,fun a o q n=>?_,fun a z=>?_,fun a o q=>?_,fun hp=>?_⟩
 ·rcases z with z | z
  ·exact P1.fx a z z2
  ·exact P2.fx a z (.inr z2)
 ·refine P2.keep a o (P1.keep a o q n) fun i z=>?_;rcases P1.own a (.inr ⟨i,z⟩) with ⟨j,z⟩ | z
  ·exact n j z
  ·rw [q] at z; cases z
 ·rcases z with (z | z) | z
  ·exact P1.own a (.inl z)
  ·rcases P2.own a (.inl z) with z | z
   ·exact P1.own a (.inr z)
   ·exact .inr (n1 a z)
  ·rcases P2.own a (.inr z) with z | z
   ·exact P1.own a (.inr z)
   ·exact .inr (n1 a z)
 ·obtain ⟨o',q'⟩:=P1.dom a o q;exact P2.dom a o' q'
 ·have h1:p1=true:=by cases p1 <;> simp_all
  have h2:p2=true:=by cases p2 <;> simp_all
  obtain ⟨a1,a2,a3⟩:=P1.pure h1;obtain ⟨b1,b2,b3⟩:=P2.pure h2;exact ⟨b1.trans a1,b2.trans a2,fun a o q=>b3 a o (a3 a o q)⟩
def Ow.over {H1 H2:Hp} {R1 R2:Nat->AS} {F1 F2:AS} {t:D} {v:V} (P1:EnvOk K ds1 (U F1 Ox) H1 σ en1 R1) (P2:Post K p2 ds2 (U F1 Ox) σ H1 en1 R1 en2 H2 R2 F2) (h:Ow K (Own R1 (U F1 Ox)) H1 t d v F1) :
  Ow K (Own R2 (U (U F1 F2) Ox)) H2 t d v F1:=by
 refine Ow.mv (G:=F1) ⟨fun a o q z=>P2.keep a o q fun i zi=>?_,fun a z=>?_⟩ t (fun _ z=>z) h
 ·rcases z with z | z
  ·exact z (.inl ⟨i,zi⟩)
  ·exact P1.dx i a zi (.inl z)
 ·rcases z with z | (z | z) | z
  ·rcases P2.own a (.inr z) with z | z
   ·exact .inl (.inl z)
   ·exact .inr z
  ·exact .inl (.inr (.inl z))
  ·rcases P2.own a (.inl z) with z | z
   ·exact .inl (.inl z)
   ·exact .inr z
  ·exact .inl (.inr (.inr z))
def lq {F1 F2:AS}:U F2 (U F1 Ox)=U (U F1 F2) Ox:=fV fun a=>by unfold U; exact ⟨fun z=>by rcases z with z | z | z; exact .inl (.inr z); exact .inl (.inl z); exact .inr z,fun z=>by rcases z with (z | z) | z; exact .inr (.inl z); exact .inl z; exact .inr (.inr z)⟩
def two {f g:En->Option (D × En)} {Q:V->V->Hp->Prop} (e:EnvOk K ds Ox H σ en R) (h1:f en=some (t1,en1)) (h2:g en1=some (t2,en2))
  (k:∀ x y H2 R2 F1 F2,Post K (p1 && p2) ds2 Ox σ H en R en2 H2 R2 (U F1 F2)->Ow K (Own R2 (U (U F1 F2) Ox)) H2 t1 d1 x F1->Ow K (Own R2 (U (U F1 F2) Ox)) H2 t2 d2 y F2->Q x y H2) :
  tF K p1 ds ds1 d1 f σ H fun x H1=>tF K p2 ds1 ds2 d2 g σ H1 fun y H2=>Q x y H2:=by
 refine ⟨Ox,en,R,t1,en1,e,h1,fun x H1 R1 F1 P1 o1=>?_⟩;refine ⟨U F1 Ox,en1,R1,t2,en2,P1.env,h2,fun y H2 R2 F2 P2 o2=>?_⟩;exact k x y H2 R2 F1 F2 (P1.trans P2) (Ow.over P1.env P2 o1) (lq ▸ o2)
end
abbrev ME:=En->Option (D × En)
abbrev MT:=En->Option (Bool × En)
abbrev MA:=En->Option (List (D ⊕ Nat) × En)
def af (i:Nat):ME:=fun en=>(en[i]?).join.map fun t=>(t,en)
def eMv (i:Nat):ME:=fun en=>(en[i]?).join.map fun t=>(t,en.set i none)
def eC (t:D):ME:=fun en=>some (t,en)
def e1 (g:D->Option D) (f:ME):ME:=fun en=>(f en).bind fun r=>(g r.1).map fun t=>(t,r.2)
def e2 (g:D->D->Option D) (f1 f2:ME):ME:=fun en=>(f1 en).bind fun r=>(f2 r.2).bind fun q=>(g r.1 q.1).map fun t=>(t,q.2)
def cG (f g:ME):ME:=fun en=>(f en).bind fun r=>match r.1 with
 | .bool true=>g r.2
 | .bool false=>some (.bool false,r.2)
 | _=>none
def eOr (f g:ME):ME:=fun en=>(f en).bind fun r=>match r.1 with
 | .bool true=>some (.bool true,r.2)
 | .bool false=>g r.2
 | _=>none
def kr (f:ME):ME:=fun en=>(f en).bind fun r=>match r.1 with
 | .bool b=>some (.bool (!b),r.2)
 | _=>none
def eIf (c:MT) (f g:ME):ME:=fun en=>(c en).bind fun r=>if r.1 then f r.2 else g r.2
def tV (f:ME):MT:=fun en=>(f en).bind fun r=>match r.1 with
 | .bool b=>some (b,r.2)
 | _=>none
def dN (f g:MT):MT:=fun en=>(f en).bind fun r=>if r.1 then g r.2 else some (false,r.2)
def bOr (f g:MT):MT:=fun en=>(f en).bind fun r=>if r.1 then some (true,r.2) else g r.2
def di (f:MT):MT:=fun en=>(f en).map fun r=>(!r.1,r.2)
def ag:MA:=fun en=>some ([],en)
def ac (f:ME) (r:MA):MA:=fun en=>(f en).bind fun x=>(r x.2).map fun y=>(.inl x.1 :: y.1,y.2)
def aO (i:Nat) (r:MA):MA:=fun en=>(en[i]?).join.bind fun _=>(r en).map fun y=>(.inr i :: y.1,y.2)
def bH:List (D ⊕ Nat)->Option (List D)
 | []=>some []
 | .inl t :: r=>(bH r).map (t :: ·)
 | .inr _ :: _=>none
def eN (g:List D->Option D) (fa:MA):ME:=fun en=>(fa en).bind fun r=>(bH r.1).bind fun ts=>(g ts).map fun t=>(t,r.2)
def NewTo (H H':Hp) (F:AS):Prop:=(∀ a o,H a=some o->H' a=some o)/\∀ a,F a->H a=none/\∃ o,H' a=some o
def NoA:AS:=fun _=>False
def eJ {A:AS}:U NoA A=A:=fV fun a=>⟨fun z=>z.elim (fun z=>z.elim) id,.inr⟩
def rF1 (K:PySem.W.Frag) (g:D->Option D) (d:Nat):V->Hp->VK->Prop:=fun x H Q=>∃ (O:AS) (a t:D),Ow K O H a 0 x NoA/\(∀ a,O a->∃ o,H a=some o)/\g a=some t/\∀ v H' F,NewTo H H' F->Ow K (U F O) H' t d v F->Q v H'
def rF2 (K:PySem.W.Frag) (g:D->D->Option D) (d:Nat):R2:=fun x y H Q=>∃ (O:AS) (a b t:D),Ow K O H a 0 x NoA/\Ow K O H b 0 y NoA/\(∀ a,O a->∃ o,H a=some o)/\g a b=some t/\∀ v H' F,NewTo H H' F->Ow K (U F O) H' t d v F->Q v H'
def rFn (K:PySem.W.Frag) (g:List D->Option D) (d:Nat):List V->Hp->VK->Prop:=fun xs H Q=>∃ (O:AS) (ts:List D) (t:D),Ows K O H ts 0 xs NoA/\(∀ a,O a->∃ o,H a=some o)/\g ts=some t/\∀ v H' F,NewTo H H' F->Ow K (U F O) H' t d v F->Q v H'
section
variable {K:PySem.W.Frag} {p p1 p2:Bool} {ds ds0 ds1 ds2 ds':List Nat} {Ox Ox':AS} {H H':Hp} {σ:St} {en en' en1 en2:En} {R R':Nat->AS} {d d' d1 d2:Nat} {t t1 t2:D} {Q:VK} {f f1 f2 fa fb:ME}
def lr {F:AS}:U F (Own R Ox)=Own R (U F Ox):=fV fun a=>by
 unfold U Own;exact ⟨fun z=>by rcases z with z | z | z; exact .inr (.inl z); exact .inl z; exact .inr (.inr z),fun z=>by rcases z with z | z | z; exact .inr (.inl z); exact .inl z; exact .inr (.inr z)⟩
def Post.fin {H1:Hp} {F0 F:AS} (P:Post K p ds' Ox σ H en R en' H1 R' F0) (n:NewTo H1 H' F):Post K p ds' Ox σ H en R en' H' R' F:=by
 have e:=P.env.fewer (Ox':=Ox) fun a z=>.inr z;have n1:∀ a,H1 a=none->H a=none:=fun a z=>by
  cases q:H a with
  | none=>rfl
  | some o =>
   obtain ⟨o',q'⟩:=P.dom a o q;rw [z] at q';cases q'
 refine ⟨e.grow n.1 n.2,fun a z z2=>?_,fun a o q nn=>n.1 a o (P.keep a o q nn),fun a z=>?_,fun a o q=>?_,fun hp=>?_⟩
 ·obtain ⟨o,q⟩:=e.dom a (.inr z2);rw [(n.2 a z).1] at q;cases q
 ·rcases z with z | z
  ·exact .inr (n1 a (n.2 a z).1)
  ·exact P.own a (.inr z)
 ·obtain ⟨o',q'⟩:=P.dom a o q;exact ⟨o',n.1 a o' q'⟩
 ·obtain ⟨a1,a2,a3⟩:=P.pure hp;exact ⟨a1,a2,fun a o q=>n.1 a o (a3 a o q)⟩
def Post.less {F F':AS} (P:Post K p ds' Ox σ H en R en' H' R' F) (h:∀ a,F' a->F a):Post K p ds' Ox σ H en R en' H' R' F' :=
 ⟨P.env.fewer fun a z=>z.imp (h a) id,fun a z=>P.fx a (h a z),P.keep,fun a z=>P.own a (z.imp (h a) id),P.dom,P.pure⟩
def Ow.letgo {F F0:AS} {v:V} (P:Post K p ds' Ox σ H en R en' H' R' F0) (hf:∀ a,F a->F0 a) (h:Ow K (Own R' (U F0 Ox)) H' t d v F):Ow K (Own R' Ox) H' t 0 v NoA:=by
 refine Ow.fz (fun a z=>z.imp id .inr) (fun a z z2=>?_) h;rcases z2 with ⟨i,z2⟩ | z2
 ·exact P.env.dx i a z2 (.inl (hf a z))
 ·exact P.fx a (hf a z) z2
def Post.doms {F0:AS} (P:Post K p ds' Ox σ H en R en' H' R' F0):∀ a,Own R' Ox a->∃ o,H' a=some o:=fun a z=>P.env.dom a (z.imp id .inr)
def FF (hd:ds[i]?=some 0) (h:tF K true ds ds 0 (af i) σ H Q):i9 i σ H Q:=by
 obtain ⟨Ox,en,R,t,en',e,hf,k⟩:=h;unfold af at hf;cases q:en[i]? with
 | none=>rw [q] at hf; cases hf
 | some o =>
  rw [q] at hf;cases o with
  | none=>cases hf
  | some t' =>
   cases hf;obtain ⟨v,d,h1,h2,h3⟩:=e.at_ i t q;rw [hd] at h2;cases h2;exact ⟨v,h1,k v H R NoA (Post.refl e) (by rw [eJ]; exact Ow.any0 t h3)⟩
def f_c {v:V} (hv:∀ K O H F,Ow K O H t 3 v F) (h:tF K true ds ds 3 (eC t) σ H Q):tC v σ H Q:=by
 obtain ⟨Ox,en,R,t',en',e,hf,k⟩:=h;cases hf;exact k v H R NoA (Post.refl e) (hv _ _ _ _)
def FH (hd:d'<=d) (h:tF K p ds ds' d' f σ H Q):tF K p ds ds' d f σ H Q:=by
 obtain ⟨Ox,en,R,t,en',e,hf,k⟩:=h;refine ⟨Ox,en,R,t,en',e,hf,fun v H' R' F P o=>?_⟩;obtain ⟨F',s1,s2⟩:=Ow.cut t hd o;refine k v H' R' F' (P.less s1) (s2 _ (fun a z=>z.imp id fun z=>z.imp (s1 a) id) fun a z z2=>?_);rcases z2 with ⟨i,z2⟩ | z2 | z2
 ·exact absurd (.inl z) (P.env.dx i a z2)
 ·exact z2
 ·exact absurd z2 (P.fx a z)
def iL (hp:p'=true->p=true) (h:tF K p' ds ds' d f σ H Q):tF K p ds ds' d f σ H Q:=by
 obtain ⟨Ox,en,R,t,en',e,hf,k⟩:=h;exact ⟨Ox,en,R,t,en',e,hf,fun v H' R' F P o=>k v H' R' F ⟨P.env,P.fx,P.keep,P.own,P.dom,fun z=>P.pure (hp z)⟩ o⟩
def EnvOk.cut (e:EnvOk K ds Ox H σ en R) (hl:ds0.length=ds.length) (hd:∀ (i:Nat) a b,ds0[i]?=some a->ds[i]?=some b->a<=b):∃ R',(∀ i a,R' i a->R i a)/\EnvOk K ds0 Ox H σ en R':=by
 have ch:∀ i,∃ F':AS,(∀ b,F' b->R i b)/\∀ t v d0,en[i]?=some (some t)->σ[i]?=some (some v)->ds0[i]?=some d0->∀ O':AS,(∀ a,O' a->Own R Ox a)->(∀ a,R i a->O' a->F' a)->Ow K O' H t d0 v F':=fun i=>by
  by_cases h:∃ t,en[i]?=some (some t)
  ·obtain ⟨t,ht⟩:=h;obtain ⟨v,d,h1,h2,h3⟩:=e.at_ i t ht;cases q:ds0[i]? with
   | none=>exact ⟨NoA,fun _ z=>z.elim,fun _ _ _ _ _ z=>nomatch z⟩
   | some d0 =>
    obtain ⟨F',s1,s2⟩:=Ow.cut t (hd i d0 d q h2) h3;refine ⟨F',s1,fun t' v' d0' h1' h2' h3' O'=>?_⟩;rw [ht] at h1'; cases h1';rw [h1] at h2'; cases h2';cases h3';exact s2 O'
  ·exact ⟨NoA,fun _ z=>z.elim,fun t _ _ ht=>absurd ⟨t,ht⟩ h⟩
 refine ⟨fun i=>(ch i).choose,fun i=>(ch i).choose_spec.1,fun i t ht=>?_,fun i j a z1 z2=>e.dj i j a ((ch i).choose_spec.1 a z1) ((ch j).choose_spec.1 a z2),fun i a z=>e.dx i a ((ch i).choose_spec.1 a z),fun a z=>e.dom a (z.imp (fun ⟨i,z⟩=>⟨i,(ch i).choose_spec.1 a z⟩) id),e.l1,hl.trans e.l2⟩;obtain ⟨v,d,h1,h2,h3⟩:=e.at_ i t ht;have hi:i < ds0.length:=by rw [hl]; exact (zah.mp h2).1
 refine ⟨v,ds0[i],h1,zak hi,(ch i).choose_spec.2 t v _ ht h1 (zak hi) _ (fun a z=>z.imp (fun ⟨j,z⟩=>⟨j,(ch j).choose_spec.1 a z⟩) id) fun a z z2=>?_⟩;rcases z2 with ⟨j,z2⟩ | z2
 ·have:=e.dj i j a z ((ch j).choose_spec.1 a z2);subst this;exact z2
 ·exact absurd z2 (e.dx i a z)
def leD:List Nat->List Nat->Bool
 | [],[]=>true
 | a :: r,b :: s=>decide (a<=b) && leD r s
 | _,_=>false
def eW:∀ {a b:List Nat},leD a b=true->a.length=b.length/\∀ (i:Nat) x y,a[i]?=some x->b[i]?=some y->x<=y
 | [],[],_=>⟨rfl,fun i x y h=>by simp at h⟩
 | a :: r,b :: s,h=>by
  unfold leD at h;rw [Bool.and_eq_true] at h;obtain ⟨h1,h2⟩:=h;obtain ⟨h3,h4⟩:=eW h2;refine ⟨by rw [zac,zac,h3],fun i x y e1 e2=>?_⟩;cases i with
  | zero=>cases e1; cases e2; exact of_decide_eq_true h1
  | succ i=>exact h4 i x y e1 e2
 | [],_ :: _,h=>nomatch h
 | _ :: _,[],h=>nomatch h
def Gh (hd:leD ds0 ds=true) (h:tF K false ds ds' d f σ H Q):tF K p ds0 ds' d f σ H Q:=by
 obtain ⟨Ox,en,R,t,en',e,hf,k⟩:=h;obtain ⟨R1,s1,e1⟩:=e.cut (eW hd).1 (eW hd).2;refine ⟨Ox,en,R1,t,en',e1,hf,fun v H' R' F P o=>k v H' R' F ⟨P.env,P.fx,fun a o q n=>P.keep a o q fun i z=>n i (s1 i a z),fun a z=>(P.own a z).imp (fun ⟨i,z⟩=>⟨i,s1 i a z⟩) id,P.dom,fun z=>nomatch z⟩ o⟩
def FN (hd:leD ds0 ds=true) (h:tF K true ds ds 3 f σ H Q):tF K true ds0 ds0 3 f σ H Q:=by
 obtain ⟨Ox,en,R,t,en',e,hf,k⟩:=h;obtain ⟨R1,s1,e1⟩:=e.cut (eW hd).1 (eW hd).2;refine ⟨Ox,en,R1,t,en',e1,hf,fun v H' R' F P o=>?_⟩;obtain ⟨a1,a2,a3⟩:=P.pure rfl;subst a1 a2;have nf:∀ a,F a->H a=none:=fun a z=>by
  rcases P.own a (.inl z) with ⟨i,z2⟩ | z2
  ·exact absurd (.inl z) (P.env.dx i a z2)
  ·exact z2
 have nt:NewTo H H' F:=⟨a3,fun a z=>⟨nf a z,P.env.dom a (.inr (.inl z))⟩⟩;exact k v H' R F (Post.new e nt.1 nt.2) (Ow.full t o)
def FI {g:D->Option D} (h:tF K p ds ds1 d (e1 g f) σ H Q):tUn (rF1 K g d) (tF K p ds ds1 d1 f) σ H Q:=by
 obtain ⟨Ox,en,R,t,en',e,hf,k⟩:=h;unfold e1 at hf;obtain ⟨⟨t1,en1⟩,h1,hf⟩:=zaa.mp hf;obtain ⟨t',h3,hf⟩:=zab.mp hf;cases hf;refine ⟨Ox,en,R,t1,en1,e,h1,fun v H' R' F P o=>?_⟩;refine ⟨Own R' Ox,t1,t,Ow.letgo P (fun _ z=>z) o,P.doms,h3,fun v2 H2 F2 n o2=>k v2 H2 R' F2 (P.fin n) (lr ▸ o2)⟩
def mT {g:D->D->Option D} (h:tF K (p1 && p2) ds ds2 d (e2 g f1 f2) σ H Q):tOp (rF2 K g d) (tF K p1 ds ds1 d1 f1) (tF K p2 ds1 ds2 d2 f2) σ H Q:=by
 obtain ⟨Ox,en,R,t,en',e,hf,k⟩:=h;unfold e2 at hf;obtain ⟨⟨t1,en1⟩,h1,hf⟩:=zaa.mp hf;obtain ⟨⟨t2,en2⟩,h2,hf⟩:=zaa.mp hf;obtain ⟨t',h3,hf⟩:=zab.mp hf;cases hf;refine two e h1 h2 fun x y H2 R2 F1 F2 P o1 o2=>?_;exact ⟨Own R2 Ox,t1,t2,t,Ow.letgo P (fun _=>.inl) o1,Ow.letgo P (fun _=>.inr) o2,P.doms,h3,fun v2 H3 F3 n o3=>k v2 H3 R2 F3 (P.fin n) (lr ▸ o3)⟩
def Post.after {H1:Hp} {R1 R2:Nat->AS} {F1 F:AS} (P1:Post K p1 ds1 Ox σ H en R en1 H1 R1 F1) (P2:Post K p2 ds2 Ox σ H1 en1 R1 en2 H' R2 F):Post K (p1 && p2) ds2 Ox σ H en R en2 H' R2 F:=by
 have P1':=P1.less (F':=NoA) fun _ z=>z.elim;have P2':Post K p2 ds2 (U NoA Ox) σ H1 en1 R1 en2 H' R2 F:=by rw [eJ]; exact P2
 have:=P1'.trans P2';rw [eJ] at this;exact this
def Post.env0 {F:AS} (P:Post K p ds' Ox σ H en R en' H' R' F):EnvOk K ds' Ox H' σ en' R':=P.env.fewer fun a z=>.inr z
def FP (h:tF K (p1 && p2) ds ds1 d (cG f1 f2) σ H Q):zn (tF K p1 ds ds1 d1 f1) (tF K p2 ds1 ds1 d f2) σ H Q:=by
 obtain ⟨Ox,en,R,t,en',e,hf,k⟩:=h;unfold cG at hf;obtain ⟨⟨t1,en1⟩,h1,hf⟩:=zaa.mp hf;refine ⟨Ox,en,R,t1,en1,e,h1,fun v H1 R1 F1 P1 o1=>?_⟩;cases t1 with
 | bool b =>
  have ev:v=.bl b:=o1;refine ⟨b,ev,?_⟩;cases b with
  | true =>
   rw [if_pos rfl];exact ⟨Ox,en1,R1,t,en',P1.env0,hf,fun v2 H2 R2 F2 P2 o2=>k v2 H2 R2 F2 (P1.after P2) o2⟩
  | false =>
   cases hf;rw [if_neg Bool.false_ne_true];refine k _ H1 R1 NoA ?_ rfl
   have:=(P1.less (F':=NoA) fun _ z=>z.elim);exact ⟨this.env,this.fx,this.keep,this.own,this.dom,fun hp=>this.pure (by cases p1 <;> simp_all)⟩
 | _=>cases hf
def Gg (h:tF K (p1 && p2) ds ds1 d (eOr f1 f2) σ H Q):CW (tF K p1 ds ds1 d1 f1) (tF K p2 ds1 ds1 d f2) σ H Q:=by
 obtain ⟨Ox,en,R,t,en',e,hf,k⟩:=h;unfold eOr at hf;obtain ⟨⟨t1,en1⟩,h1,hf⟩:=zaa.mp hf;refine ⟨Ox,en,R,t1,en1,e,h1,fun v H1 R1 F1 P1 o1=>?_⟩;cases t1 with
 | bool b =>
  have ev:v=.bl b:=o1;refine ⟨b,ev,?_⟩;cases b with
  | false =>
   rw [if_neg Bool.false_ne_true];exact ⟨Ox,en1,R1,t,en',P1.env0,hf,fun v2 H2 R2 F2 P2 o2=>k v2 H2 R2 F2 (P1.after P2) o2⟩
  | true =>
   cases hf;rw [if_pos rfl];refine k _ H1 R1 NoA ?_ rfl
   have:=(P1.less (F':=NoA) fun _ z=>z.elim);exact ⟨this.env,this.fx,this.keep,this.own,this.dom,fun hp=>this.pure (by cases p1 <;> simp_all)⟩
 | _=>cases hf
def FJ (h:tF K p ds ds1 3 (kr f) σ H Q):ze (tF K p ds ds1 d1 f) σ H Q:=by
 obtain ⟨Ox,en,R,t,en',e,hf,k⟩:=h;unfold kr at hf;obtain ⟨⟨t1,en1⟩,h1,hf⟩:=zaa.mp hf;refine ⟨Ox,en,R,t1,en1,e,h1,fun v H1 R1 F1 P1 o1=>?_⟩;cases t1 with
 | bool b =>
  cases hf;exact ⟨b,o1,k _ H1 R1 NoA (P1.less fun _ z=>z.elim) rfl⟩
 | _=>cases hf
def tFT (K:PySem.W.Frag) (p:Bool) (ds ds':List Nat) (f:MT):TT:=fun σ H Q =>
 ∃ Ox en R b en',EnvOk K ds Ox H σ en R/\f en=some (b,en')/\∀ H' R',Post K p ds' Ox σ H en R en' H' R' NoA->Q b H'
variable {c c1 c2:MT} {QT:Bool->Hp->Prop}
def qI (h:tFT K p ds ds' (tV f) σ H QT):tB (tF K p ds ds' d f) σ H QT:=by
 obtain ⟨Ox,en,R,b,en',e,hf,k⟩:=h;unfold tV at hf;obtain ⟨⟨t1,en1⟩,h1,hf⟩:=zaa.mp hf;refine ⟨Ox,en,R,t1,en1,e,h1,fun v H1 R1 F1 P1 o1=>?_⟩;cases t1 with
 | bool b =>
  cases hf;exact ⟨_,o1,k H1 R1 (P1.less fun _ z=>z.elim)⟩
 | _=>cases hf
def D7 (h:tFT K (p1 && p2) ds ds1 (dN c1 c2) σ H QT):C3 (tFT K p1 ds ds1 c1) (tFT K p2 ds1 ds1 c2) σ H QT:=by
 obtain ⟨Ox,en,R,b,en',e,hf,k⟩:=h;unfold dN at hf;obtain ⟨⟨b1,en1⟩,h1,hf⟩:=zaa.mp hf;refine ⟨Ox,en,R,b1,en1,e,h1,fun H1 R1 P1=>?_⟩;cases b1 with
 | true =>
  rw [if_pos rfl];exact ⟨Ox,en1,R1,b,en',P1.env0,hf,fun H2 R2 P2=>k H2 R2 (P1.after P2)⟩
 | false =>
  cases hf;rw [if_neg Bool.false_ne_true];exact k H1 R1 ⟨P1.env,P1.fx,P1.keep,P1.own,P1.dom,fun hp=>P1.pure (by cases p1 <;> simp_all)⟩
def Fq (h:tFT K (p1 && p2) ds ds1 (bOr c1 c2) σ H QT):tOr (tFT K p1 ds ds1 c1) (tFT K p2 ds1 ds1 c2) σ H QT:=by
 obtain ⟨Ox,en,R,b,en',e,hf,k⟩:=h;unfold bOr at hf;obtain ⟨⟨b1,en1⟩,h1,hf⟩:=zaa.mp hf;refine ⟨Ox,en,R,b1,en1,e,h1,fun H1 R1 P1=>?_⟩;cases b1 with
 | false =>
  rw [if_neg Bool.false_ne_true];exact ⟨Ox,en1,R1,b,en',P1.env0,hf,fun H2 R2 P2=>k H2 R2 (P1.after P2)⟩
 | true =>
  cases hf;rw [if_pos rfl];exact k H1 R1 ⟨P1.env,P1.fx,P1.keep,P1.own,P1.dom,fun hp=>P1.pure (by cases p1 <;> simp_all)⟩
def D5 (h:tFT K p ds ds1 (di c) σ H QT):CY (tFT K p ds ds1 c) σ H QT:=by
 obtain ⟨Ox,en,R,b,en',e,hf,k⟩:=h;unfold di at hf;obtain ⟨⟨b1,en1⟩,h1,hf⟩:=zab.mp hf;cases hf;exact ⟨Ox,en,R,b1,_,e,h1,fun H1 R1 P1=>k H1 R1 P1⟩
end
abbrev Sh:=List (Nat ⊕ Nat)
def OwA (K:PySem.W.Frag) (O:AS) (H:Hp) (σ:St):List (D ⊕ Nat)->Sh->List V->AS->Prop
 | [],ds,vs,_=>ds=[]/\vs=[]
 | .inl t :: as,ds,vs,F=>∃ v r d dr,∃ F1 F2:AS,vs=v :: r/\ds=.inl d :: dr/\(∀ b,F1 b->F b)/\(∀ b,F2 b->F b)/\(∀ b,F1 b->¬ F2 b)/\Ow K O H t d v F1/\OwA K O H σ as dr r F2
 | .inr i :: as,ds,vs,F=>∃ v r dr,vs=v :: r/\ds=.inr i :: dr/\σ[i]?=some (some v)/\OwA K O H σ as dr r F
def tFA (K:PySem.W.Frag) (p:Bool) (ds ds':List Nat) (sh:Sh) (f:MA):TA:=fun σ H Q =>
 ∃ Ox en R as en',EnvOk K ds Ox H σ en R/\f en=some (as,en')/\∀ vs H' R' F,Post K p ds' Ox σ H en R en' H' R' F->OwA K (Own R' (U F Ox)) H' σ as sh vs F->Q vs H'
def aT (fa:MA):ME:=fun en=>(fa en).bind fun r=>(bH r.1).bind fun ts=>if ts.length<=sizeLine then some (.list ts,r.2) else none
def av (fa:MA):ME:=fun en=>(fa en).bind fun r=>(bH r.1).bind fun ts=>if ts.length<=sizeLine then some (.tuple ts,r.2) else none
section
variable {K:PySem.W.Frag} {p p1 p2:Bool} {ds ds0 ds1 ds2 ds':List Nat} {Ox Ox' O O':AS} {H H':Hp} {σ:St} {en en' en1 en2:En} {R R':Nat->AS} {d d' d1 d2:Nat} {t t1 t2:D} {Q:VK} {f f1 f2:ME} {fa:MA} {sh:Sh} {QA:List V->Hp->Prop} {i:Nat}
def EG (h:tFA K true ds ds [] ag σ H QA):oU σ H QA:=by
 obtain ⟨Ox,en,R,as,en',e,hf,k⟩:=h;cases hf;exact k [] H R NoA (Post.refl e) ⟨rfl,rfl⟩
def AV (h:tFA K (p1 && p2) ds ds2 (.inl d :: sh) (ac f fa) σ H QA):kG (tF K p1 ds ds1 d f) (tFA K p2 ds1 ds2 sh fa) σ H QA:=by
 obtain ⟨Ox,en,R,as,en',e,hf,k⟩:=h;unfold ac at hf;obtain ⟨⟨t1,en1⟩,h1,hf⟩:=zaa.mp hf;obtain ⟨⟨as2,en2⟩,h2,hf⟩:=zab.mp hf;cases hf;refine ⟨Ox,en,R,t1,en1,e,h1,fun x H1 R1 F1 P1 o1=>?_⟩;refine ⟨U F1 Ox,en1,R1,as2,en2,P1.env,h2,fun vs H2 R2 F2 P2 o2=>?_⟩;refine k (x :: vs) H2 R2 (U F1 F2) (P1.trans P2) ⟨x,vs,d,sh,F1,F2,rfl,rfl,fun _=>.inl,fun _=>.inr,fun b z1 z2=>P2.fx b z2 (.inl z1),Ow.over P1.env P2 o1,?_⟩;rw [<- lq];exact o2
def AT (h:tFA K p ds ds2 (.inr i :: sh) (aO i fa) σ H QA):kG (i9 i) (tFA K p ds ds2 sh fa) σ H QA:=by
 obtain ⟨Ox,en,R,as,en',e,hf,k⟩:=h;unfold aO at hf;obtain ⟨t0,h0,hf⟩:=zaa.mp hf;obtain ⟨⟨as2,en2⟩,h2,hf⟩:=zab.mp hf;cases hf;have q:en[i]?=some (some t0):=by
  cases q:en[i]? with
  | none=>rw [q] at h0; cases h0
  | some o=>rw [q] at h0; exact congrArg some h0
 obtain ⟨v,d,h1,_⟩:=e.at_ i t0 q;exact ⟨v,h1,Ox,en,R,as2,en2,e,h2,fun vs H2 R2 F2 P2 o2=>k (v :: vs) H2 R2 F2 P2 ⟨v,vs,sh,rfl,rfl,h1,o2⟩⟩
def bT (c:Nat):Sh->Bool
 | []=>true
 | .inl d :: r=>decide (c<=d) && bT c r
 | .inr _ :: _=>false
def OwA.ows:∀ {as:List (D ⊕ Nat)} {sh:Sh} {vs:List V} {F:AS} {ts:List D} {c:Nat},bT c sh=true->bH as=some ts->OwA K O H σ as sh vs F ->
  ∃ F':AS,(∀ b,F' b->F b)/\∀ O':AS,(∀ a,O' a->O a)->(∀ a,F a->O' a->F' a)->Ows K O' H ts c vs F'
 | [],_,_,F,ts,c,_,hv,h=>by
  cases hv;exact ⟨F,fun _ z=>z,fun _ _ _=>h.2⟩
 | .inl t :: as,_,_,F,ts,c,hs,hv,h=>by
  obtain ⟨v,r,d,dr,F1,F2,e1,e2,s1,s2,s3,h1,h2⟩:=h;subst e1 e2;unfold bH at hv;obtain ⟨ts',hv',e⟩:=zab.mp hv;subst e;unfold bT at hs;rw [Bool.and_eq_true] at hs;obtain ⟨G1,a1,a2⟩:=Ow.cut t (of_decide_eq_true hs.1) h1;obtain ⟨G2,b1,b2⟩:=OwA.ows hs.2 hv' h2;refine ⟨fun b=>G1 b\/G2 b,fun b hb=>hb.elim (fun z=>s1 _ (a1 _ z)) fun z=>s2 _ (b1 _ z),fun O' ho hx=>⟨v,r,G1,G2,rfl,fun b=>.inl,fun b=>.inr,fun b z1 z2=>s3 b (a1 b z1) (b1 b z2),a2 O' ho fun b hb hz=>?_,b2 O' ho fun b hb hz=>?_⟩⟩
  ·exact (hx b (s1 b hb) hz).elim id fun z=>absurd (b1 b z) (s3 b hb)
  ·exact (hx b (s2 b hb) hz).elim (fun z=>absurd hb (s3 b (a1 b z))) id
 | .inr i :: as,_,_,F,ts,c,_,hv,_=>by cases hv
def OwA.len:∀ {as:List (D ⊕ Nat)} {sh:Sh} {vs:List V} {F:AS},OwA K O H σ as sh vs F->vs.length=as.length
 | [],_,_,_,h=>by rw [h.2]; rfl
 | .inl t :: as,_,_,_,h=>by
  obtain ⟨v,r,d,dr,F1,F2,e1,e2,s1,s2,s3,h1,h2⟩:=h;rw [e1,zac,zac,h2.len]
 | .inr i :: as,_,_,_,h=>by
  obtain ⟨v,r,dr,e1,e2,e3,h2⟩:=h;rw [e1,zac,zac,h2.len]
def j8:∀ {as:List (D ⊕ Nat)} {ts:List D},bH as=some ts->ts.length=as.length
 | [],_,h=>by cases h; rfl
 | .inl t :: as,_,h=>by
  unfold bH at h;obtain ⟨ts',hv',e⟩:=zab.mp h;subst e;rw [zac,zac,j8 hv']
 | .inr _ :: _,_,h=>by cases h
def qV {g:List D->Option D} (hs:bT 0 sh=true) (h:tF K p ds ds1 d (eN g fa) σ H Q):tCB (rFn K g d) (tFA K p ds ds1 sh fa) σ H Q:=by
 obtain ⟨Ox,en,R,t,en',e,hf,k⟩:=h;unfold eN at hf;obtain ⟨⟨as,en1⟩,h1,hf⟩:=zaa.mp hf;obtain ⟨ts,h2,hf⟩:=zaa.mp hf;obtain ⟨t',h3,hf⟩:=zab.mp hf;cases hf;refine ⟨Ox,en,R,as,en1,e,h1,fun vs H1 R1 F P o=>?_⟩;obtain ⟨F',s1,s2⟩:=OwA.ows hs h2 o;have o2:Ows K (Own R1 Ox) H1 ts 0 vs F':=s2 _ (fun a z=>z.imp id .inr) fun a z z2=>by
  rcases z2 with ⟨i,z2⟩ | z2
  ·exact absurd (.inl z) (P.env.dx i a z2)
  ·exact absurd z2 (P.fx a z)
 exact ⟨Own R1 Ox,ts,t,Ows.any0 ts o2,P.doms,h3,fun v2 H2 F2 n o2=>k v2 H2 R1 F2 (P.fin n) (lr ▸ o2)⟩
def Post.add {H1:Hp} {F G:AS} (P:Post K p ds' Ox σ H en R en' H1 R' F) (n:NewTo H1 H' G):Post K p ds' Ox σ H en R en' H' R' (U F G):=by
 have P2:Post K true ds' (U F Ox) σ H1 en' R' en' H' R' G:=Post.new P.env n.1 n.2
 have:=P.trans P2;rw [Bool.and_true] at this;exact this
def cb {l:Addr} {o:HO} (hl:H l=none):NewTo H (upd H l o) (fun b=>b=l):=by
 refine ⟨fun a u q=>?_,fun a z=>?_⟩
 ·rw [bg]
  ·exact q
  ·intro z;subst z;rw [hl] at q;cases q
 ·subst z;exact ⟨hl,_,a8⟩
def FK {c:Nat} (hs:bT c sh=true) (hd:dn d=c) (hz:d≠0) (h:tF K p ds ds1 d (aT fa) σ H Q):CZ (tFA K p ds ds1 sh fa) σ H Q:=by
 obtain ⟨Ox,en,R,t,en',e,hf,k⟩:=h;unfold aT at hf;obtain ⟨⟨as,en1⟩,h1,hf⟩:=zaa.mp hf;obtain ⟨ts,h2,hf⟩:=zaa.mp hf;by_cases hlen:ts.length<=sizeLine
 case neg=>rw [if_neg hlen] at hf; cases hf
 rw [if_pos hlen] at hf;cases hf;refine ⟨Ox,en,R,as,en1,e,h1,fun vs H1 R1 F P o=>⟨?_,fun l hl=>?_⟩⟩
 ·rw [o.len,<- j8 h2]; exact hlen
 obtain ⟨F',s1,s2⟩:=OwA.ows hs h2 o;have o2:=s2 (Own R1 (U F' Ox)) (fun a z=>z.imp id fun z=>z.imp (s1 a) id) fun a z z2=>by
  rcases z2 with ⟨i,z2⟩ | z2 | z2
  ·exact absurd (.inl z) (P.env.dx i a z2)
  ·exact z2
  ·exact absurd z2 (P.fx a z)
 have P':=(P.less s1).add (cb (o:=.lst vs) hl);have nl:∀ a,F' a->a≠l:=fun a z z2=>by
  subst z2;obtain ⟨o',q⟩:=P.env.dom a (.inr (.inl (s1 a z)));rw [hl] at q;cases q
 refine k (.ref l) (upd H1 l (.lst vs)) R1 _ P' ⟨l,vs,rfl,.inr ⟨hz,a8,.inr rfl,F',fun b z=>⟨.inl z,nl b z⟩,?_⟩⟩;rw [hd];refine Ows.mv (G:=F') ⟨fun a o q _=>(cb (o:=.lst vs) hl).1 a o q,fun a z=>?_⟩ ts (fun _ z=>z) o2;rcases z with z | (z | z) | z
 ·exact .inl (.inl z)
 ·exact .inl (.inr (.inl z))
 ·exact .inr (by rw [show a=l from z]; exact hl)
 ·exact .inl (.inr (.inr z))
def FG {c:Nat} (hs:bT c sh=true) (hd:dn d=c) (h:tF K p ds ds1 d (av fa) σ H Q):CT (tFA K p ds ds1 sh fa) σ H Q:=by
 obtain ⟨Ox,en,R,t,en',e,hf,k⟩:=h;unfold av at hf;obtain ⟨⟨as,en1⟩,h1,hf⟩:=zaa.mp hf;obtain ⟨ts,h2,hf⟩:=zaa.mp hf;by_cases hlen:ts.length<=sizeLine
 case neg=>rw [if_neg hlen] at hf; cases hf
 rw [if_pos hlen] at hf;cases hf;refine ⟨Ox,en,R,as,en1,e,h1,fun vs H1 R1 F P o=>⟨?_,fun l hl=>?_⟩⟩
 ·rw [o.len,<- j8 h2]; exact hlen
 obtain ⟨F',s1,s2⟩:=OwA.ows hs h2 o;have o2:=s2 (Own R1 (U F' Ox)) (fun a z=>z.imp id fun z=>z.imp (s1 a) id) fun a z z2=>by
  rcases z2 with ⟨i,z2⟩ | z2 | z2
  ·exact absurd (.inl z) (P.env.dx i a z2)
  ·exact z2
  ·exact absurd z2 (P.fx a z)
 have nl:∀ a,Own R1 (U F' Ox) a->a≠l:=fun a z z2=>by
  subst z2;obtain ⟨o',q⟩:=P.env.dom a (z.imp id fun z=>z.imp (s1 a) id);rw [hl] at q;cases q
 by_cases hz:d=0
 ·subst hz;have P':=(P.less s1).add (G:=NoA) (H':=upd H1 l (.tup vs)) ⟨(cb (o:=.tup vs) hl).1,fun _ z=>z.elim⟩;have eq:U F' NoA=F':=fV fun a=>⟨fun z=>z.elim id fun z=>z.elim,.inl⟩;rw [eq] at P';refine k (.ref l) (upd H1 l (.tup vs)) R1 _ P' ⟨l,vs,rfl,.inl ⟨rfl,⟨a8,fun z=>nl l z rfl⟩,?_⟩⟩;have hc:c=0:=hd.symm;subst hc;exact Ows.mv (G:=F') ⟨fun a o q _=>(cb (o:=.tup vs) hl).1 a o q,fun a z=>.inl z⟩ ts (fun _ z=>z) o2
 ·have P':=(P.less s1).add (cb (o:=.tup vs) hl);refine k (.ref l) (upd H1 l (.tup vs)) R1 _ P' ⟨l,vs,rfl,.inr ⟨hz,a8,.inr rfl,F',fun b z=>⟨.inl z,nl b (.inr (.inl z))⟩,?_⟩⟩;rw [hd];refine Ows.mv (G:=F') ⟨fun a o q _=>(cb (o:=.tup vs) hl).1 a o q,fun a z=>?_⟩ ts (fun _ z=>z) o2;rcases z with z | (z | z) | z
  ·exact .inl (.inl z)
  ·exact .inl (.inr (.inl z))
  ·exact .inr (by rw [show a=l from z]; exact hl)
  ·exact .inl (.inr (.inr z))
end
def spF (K:PySem.W.Frag) (dps:List Nat) (dr:Nat) (F:List D->Option (D × En)):Sp:=fun vs H Q _ =>
 ∃ Ox ts R r outs,EnvOk K dps Ox H (vs.map some) (ts.map some) R/\F ts=some (r,outs) /\
  ∀ v H' R' Fr,Post K false dps Ox (vs.map some) H (ts.map some) R outs H' R' Fr->Ow K (Own R' (U Fr Ox)) H' r dr v Fr->Q v H'
def eI:List (D ⊕ Nat)->En->Option (List D)
 | [],_=>some []
 | .inl t :: r,en=>(eI r en).map (t :: ·)
 | .inr i :: r,en=>(en[i]?).join.bind fun t=>(eI r en).map (t :: ·)
def wb:List (D ⊕ Nat)->En->En->En
 | .inr i :: r,o :: outs,en=>wb r outs (en.set i o)
 | .inl _ :: r,_ :: outs,en=>wb r outs en
 | _,_,en=>en
def ar (F:List D->Option (D × En)) (fa:MA):ME:=fun en=>(fa en).bind fun r=>(eI r.1 r.2).bind fun ts=>(F ts).map fun q=>(q.1,wb r.1 q.2 r.2)
def ip:Sh->List Nat
 | []=>[]
 | .inl _ :: r=>ip r
 | .inr i :: r=>i :: ip r
def dS (ds:List Nat):Sh->List Nat->Bool
 | [],[]=>true
 | .inl d :: r,q :: s=>decide (d=q) && dS ds r s
 | .inr i :: r,q :: s=>decide (ds[i]?=some q) && (decide (i ∉ ip r) && dS ds r s)
 | _,_=>false
def gi:Sh->Bool
 | []=>true
 | .inl _ :: r=>gi r
 | .inr _ :: _=>false
section
variable {K:PySem.W.Frag} {p p1 p2:Bool} {ds ds0 ds1 ds2 ds' dps:List Nat} {Ox Ox' O O':AS} {H H':Hp} {σ:St} {en en' en1 en2:En} {R R':Nat->AS} {d d' d1 d2 dr:Nat} {t t1 t2:D} {Q:VK} {f f1 f2:ME} {fa:MA} {sh:Sh} {QA:List V->Hp->Prop} {i:Nat}
def OwA.parts:∀ {as:List (D ⊕ Nat)} {sh:Sh} {vs:List V} {F:AS},OwA K O H σ as sh vs F ->
  ∃ Rp:Nat->AS,(∀ (j:Nat) t,as[j]?=some (.inl t)->∃ v d,vs[j]?=some v/\sh[j]?=some (.inl d)/\Ow K O H t d v (Rp j))/\(∀ (j i:Nat),as[j]?=some (.inr i)->∃ v,vs[j]?=some v/\sh[j]?=some (.inr i)/\σ[i]?=some (some v)) /\
   (∀ j a,Rp j a->F a)/\(∀ j j' a,Rp j a->Rp j' a->j=j')
 | [],sh,vs,F,h=>⟨fun _=>NoA,fun j t z=>by simp at z,fun j i z=>by simp at z,fun _ _ z=>z.elim,fun _ _ _ z=>z.elim⟩
 | .inl t :: as,sh,vs,F,h=>by
  obtain ⟨v,r,d,dr,F1,F2,e1,e2,s1,s2,s3,h1,h2⟩:=h;subst e1 e2;obtain ⟨Rp,a1,a2,a3,a4⟩:=h2.parts;refine ⟨fun j=>match j with | 0=>F1 | j+1=>Rp j,fun j u hj=>?_,fun j i hj=>?_,fun j a z=>?_,fun j j' a z z'=>?_⟩
  ·cases j with
   | zero =>
    have:t=u:=by simpa using hj
    subst this;exact ⟨v,d,rfl,rfl,h1⟩
   | succ j=>exact a1 j u (by simpa using hj)
  ·cases j with
   | zero=>simp at hj
   | succ j=>exact a2 j i (by simpa using hj)
  ·cases j with
   | zero=>exact s1 a z
   | succ j=>exact s2 a (a3 j a z)
  ·cases j with
   | zero =>
    cases j' with
    | zero=>rfl
    | succ j'=>exact absurd (a3 j' a z') (s3 a z)
   | succ j =>
    cases j' with
    | zero=>exact absurd (a3 j a z) (s3 a z')
    | succ j'=>rw [a4 j j' a z z']
 | .inr i :: as,sh,vs,F,h=>by
  obtain ⟨v,r,dr,e1,e2,e3,h2⟩:=h;subst e1 e2;obtain ⟨Rp,a1,a2,a3,a4⟩:=h2.parts;refine ⟨fun j=>match j with | 0=>NoA | j+1=>Rp j,fun j u hj=>?_,fun j i' hj=>?_,fun j a z=>?_,fun j j' a z z'=>?_⟩
  ·cases j with
   | zero=>simp at hj
   | succ j=>exact a1 j u (by simpa using hj)
  ·cases j with
   | zero =>
    have:i=i':=by simpa using hj
    subst this;exact ⟨v,rfl,rfl,e3⟩
   | succ j=>exact a2 j i' (by simpa using hj)
  ·cases j with
   | zero=>exact z.elim
   | succ j=>exact a3 j a z
  ·cases j with
   | zero=>exact z.elim
   | succ j =>
    cases j' with
    | zero=>exact z'.elim
    | succ j'=>rw [a4 j j' a z z']
def ky:∀ {as:List (D ⊕ Nat)} {en:En} {ts:List D},eI as en=some ts->ts.length=as.length/\∀ (j:Nat) t,ts[j]?=some t->as[j]?=some (.inl t)\/∃ i,as[j]?=some (.inr i)/\en[i]?=some (some t)
 | [],_,_,h=>by cases h; exact ⟨rfl,fun j t z=>by simp at z⟩
 | .inl t :: as,en,_,h=>by
  unfold eI at h;obtain ⟨ts',h',e⟩:=zab.mp h;subst e;obtain ⟨l,g⟩:=ky h';refine ⟨by rw [zac,zac,l],fun j u z=>?_⟩;cases j with
  | zero=>simp at z; subst z; exact .inl rfl
  | succ j=>exact g j u (by simpa using z)
 | .inr i :: as,en,_,h=>by
  unfold eI at h;obtain ⟨t,ht,h⟩:=zaa.mp h;obtain ⟨ts',h',e⟩:=zab.mp h;subst e;obtain ⟨l,g⟩:=ky h';refine ⟨by rw [zac,zac,l],fun j u z=>?_⟩;cases j with
  | zero =>
   simp at z;subst z;refine .inr ⟨i,rfl,?_⟩;cases q:en[i]? with
   | none=>rw [q] at ht; cases ht
   | some o=>rw [q] at ht; exact congrArg some ht
  | succ j=>exact g j u (by simpa using z)
def jo:∀ {sh:Sh} {dps:List Nat},dS ds sh dps=true->sh.length=dps.length/\(∀ (j d:Nat),sh[j]?=some (.inl d)->dps[j]?=some d)/\(∀ (j i:Nat),sh[j]?=some (.inr i)->∃ q,dps[j]?=some q/\ds[i]?=some q) /\
   (∀ (j j' i:Nat),sh[j]?=some (.inr i)->sh[j']?=some (.inr i)->j=j')
 | [],[],_=>⟨rfl,fun j d z=>by simp at z,fun j d z=>by simp at z,fun j j' d z=>by simp at z⟩
 | .inl d :: r,q :: s,h=>by
  unfold dS at h;rw [Bool.and_eq_true] at h;obtain ⟨h1,h2⟩:=h;have h1':=of_decide_eq_true h1;subst h1';obtain ⟨l,a,b,c⟩:=jo h2;refine ⟨by rw [zac,zac,l],fun j u z=>?_,fun j i z=>?_,fun j j' i z z'=>?_⟩
  ·cases j with
   | zero=>simp at z; subst z; rfl
   | succ j=>exact a j u (by simpa using z)
  ·cases j with
   | zero=>simp at z
   | succ j=>exact b j i (by simpa using z)
  ·cases j with
   | zero=>simp at z
   | succ j =>
    cases j' with
    | zero=>simp at z'
    | succ j'=>rw [c j j' i (by simpa using z) (by simpa using z')]
 | .inr i0 :: r,q :: s,h=>by
  unfold dS at h;rw [Bool.and_eq_true,Bool.and_eq_true] at h;obtain ⟨h1,h2,h3⟩:=h;have h1':=of_decide_eq_true h1;have h2':=of_decide_eq_true h2;obtain ⟨l,a,b,c⟩:=jo h3;have mem:∀ {r:Sh} {j i:Nat},r[j]?=some (.inr i)->i∈ip r:=fun {r}=>by
   induction r with
   | nil=>intro j i z; simp at z
   | cons x r ih =>
    intro j i z;cases j with
    | zero =>
     simp at z;subst z;unfold ip;exact zaq
    | succ j =>
     have:=ih (j:=j) (i:=i) (by simpa using z);cases x with
     | inl _=>exact this
     | inr _=>exact zaj _ this
  refine ⟨by rw [zac,zac,l],fun j u z=>?_,fun j i z=>?_,fun j j' i z z'=>?_⟩
  ·cases j with
   | zero=>simp at z
   | succ j=>exact a j u (by simpa using z)
  ·cases j with
   | zero=>simp at z; subst z; exact ⟨q,rfl,h1'⟩
   | succ j=>exact b j i (by simpa using z)
  ·cases j with
   | zero =>
    simp at z;subst z;cases j' with
    | zero=>rfl
    | succ j'=>exact absurd (mem (by simpa using z')) h2'
   | succ j =>
    cases j' with
    | zero =>
     simp at z';subst z';exact absurd (mem (by simpa using z)) h2'
    | succ j'=>rw [c j j' i (by simpa using z) (by simpa using z')]
 | [],_ :: _,h=>nomatch h
 | .inl _ :: _,[],h=>nomatch h
 | .inr _ :: _,[],h=>nomatch h
def mV:∀ (as:List (D ⊕ Nat)) (outs en:En),(wb as outs en).length=en.length
 | [],_,_=>by unfold wb; rfl
 | .inl _ :: as,[],_=>by unfold wb; rfl
 | .inr _ :: as,[],_=>by unfold wb; rfl
 | .inl _ :: as,o :: outs,en=>by unfold wb; exact mV as outs en
 | .inr i :: as,o :: outs,en=>by unfold wb; rw [mV as outs _,zaV]
def i7:∀ (as:List (D ⊕ Nat)) (outs en:En) (i:Nat),(∀ j:Nat,as[j]?≠some (.inr i))->(wb as outs en)[i]?=en[i]?
 | [],_,_,_,_=>by unfold wb; rfl
 | .inl _ :: as,[],_,_,_=>by unfold wb; rfl
 | .inr _ :: as,[],_,_,_=>by unfold wb; rfl
 | .inl _ :: as,o :: outs,en,i,h=>by unfold wb; exact i7 as outs en i fun j=>h (j+1)
 | .inr k :: as,o :: outs,en,i,h=>by
  unfold wb;rw [i7 as outs _ i fun j=>h (j+1),zaO];intro e;subst e;exact h 0 rfl
def oP:∀ (as:List (D ⊕ Nat)) (outs en:En) (i j:Nat),as[j]?=some (.inr i)->(∀ j':Nat,as[j']?=some (.inr i)->j'=j)->outs.length=as.length->i < en.length->(wb as outs en)[i]?=outs[j]?
 | [],_,_,_,_,h,_,_,_=>by simp at h
 | .inl _ :: as,[],_,_,_,_,_,h,_=>by simp at h
 | .inr _ :: as,[],_,_,_,_,_,h,_=>by simp at h
 | .inl _ :: as,o :: outs,en,i,j,h,u,l,b=>by
  unfold wb;cases j with
  | zero=>simp at h
  | succ j=>exact oP as outs en i j (by simpa using h) (fun j' z=>by have:=u (j'+1) (by simpa using z); omega) (by simpa using l) b
 | .inr k :: as,o :: outs,en,i,j,h,u,l,b=>by
  unfold wb;cases j with
  | zero =>
   have e:k=i:=by simpa using h
   subst e;rw [i7 as outs _ k fun j' z=>by have:=u (j'+1) (by simpa using z); omega];rw [zaP b];rfl
  | succ j=>exact oP as outs _ i j (by simpa using h) (fun j' z=>by have:=u (j'+1) (by simpa using z); omega) (by simpa using l) (by rw [zaV]; exact b)
def OwA.shl:∀ {as:List (D ⊕ Nat)} {sh:Sh} {vs:List V} {F:AS},OwA K O H σ as sh vs F->sh.length=as.length
 | [],_,_,_,h=>by rw [h.1]; rfl
 | .inl t :: as,_,_,_,h=>by
  obtain ⟨v,r,d,dr,F1,F2,e1,e2,s1,s2,s3,h1,h2⟩:=h;rw [e2,zac,zac,h2.shl]
 | .inr i :: as,_,_,_,h=>by
  obtain ⟨v,r,dr,e1,e2,e3,h2⟩:=h;rw [e2,zac,zac,h2.shl]
def kQ:∀ {sh:Sh},gi sh=true->∀ (j i:Nat),sh[j]?≠some (.inr i)
 | [],_,j,i,z=>by simp at z
 | .inl _ :: r,h,j,i,z=>by
  cases j with
  | zero=>simp at z
  | succ j=>exact kQ (sh:=r) h j i (by simpa using z)
 | .inr _ :: r,h,_,_,_=>nomatch h
def EK {E:XK} {F:List D->Option (D × En)} (hc:dS ds1 sh dps=true) (h:tF K (p && gi sh) ds ds1 dr (ar F fa) σ H Q):oV (spF K dps dr F) [] E (tFA K p ds ds1 sh fa) σ H Q:=by
 obtain ⟨Ox,en,R,t,en',e,hf,k⟩:=h;unfold ar at hf;obtain ⟨⟨as,en1⟩,h1,hf⟩:=zaa.mp hf;obtain ⟨ts,h2,hf⟩:=zaa.mp hf;obtain ⟨⟨r,outs⟩,h3,hf⟩:=zab.mp hf;cases hf;refine ⟨Ox,en,R,as,en1,e,h1,fun vs H1 R1 F0 P o=>?_⟩;obtain ⟨cl,c1,c2,c3⟩:=jo hc;obtain ⟨Rp,a1,a2,a3,a4⟩:=o.parts;obtain ⟨tl,tg⟩:=ky h2;have ol:=o.len;have asl:∀ (j i:Nat),as[j]?=some (.inr i)->sh[j]?=some (.inr i):=fun j i z=>(a2 j i z).choose_spec.2.1;have asr:∀ (j i:Nat),sh[j]?=some (.inr i)->as[j]?=some (.inr i):=fun j i z=>by
  cases q:as[j]? with
  | none =>
   have e1:as.length<=j:=List.getElem?_eq_none_iff.mp q;have e2:j < sh.length:=(zah.mp z).1
   have:=o.shl;omega
  | some x =>
   cases x with
   | inl t =>
    obtain ⟨_,_,_,e2,_⟩:=a1 j t q;rw [z] at e2; cases e2
   | inr i' =>
    have:=asl j i' q;rw [z] at this;cases this;rfl
 let Rq:Nat->AS:=fun j=>match sh[j]? with | some (.inr i)=>R1 i | _=>Rp j
 have rq1:∀ j i:Nat,sh[j]?=some (.inr i)->Rq j=R1 i:=fun j i z=>by show (match sh[j]? with | some (.inr i)=>R1 i | _=>Rp j)=R1 i; rw [z]
 have rq2:∀ j:Nat,(∀ i:Nat,sh[j]?≠some (.inr i))->Rq j=Rp j:=fun j z=>by
  show (match sh[j]? with | some (.inr i)=>R1 i | _=>Rp j)=Rp j;split
  ·next i q=>exact absurd q (z i)
  ·rfl
 have rqc:∀ (j:Nat) a,Rq j a->(∃ i,sh[j]?=some (.inr i)/\R1 i a)\/Rp j a:=fun j a z=>by
  by_cases q:∃ i,sh[j]?=some (.inr i)
  ·obtain ⟨i,q⟩:=q;rw [rq1 j i q] at z;exact .inl ⟨i,q,z⟩
  ·rw [rq2 j fun i z=>q ⟨i,z⟩] at z;exact .inr z
 let Oxp:AS:=fun a=>Ox a\/∃ i,R1 i a/\∀ j:Nat,sh[j]?≠some (.inr i);have sub:∀ a,Own Rq Oxp a->Own R1 (U F0 Ox) a:=fun a z=>by
  rcases z with ⟨j,z⟩ | z | ⟨i,z,_⟩
  ·rcases rqc j a z with ⟨i,_,z⟩ | z
   ·exact .inl ⟨i,z⟩
   ·exact .inr (.inl (a3 j a z))
  ·exact .inr (.inr z)
  ·exact .inl ⟨i,z⟩
 have ec:EnvOk K dps Oxp H1 (vs.map some) (ts.map some) Rq:=by
  refine ⟨fun j u hu=>?_,fun j j' a z z'=>?_,fun j a z z2=>?_,fun a z=>P.env.dom a (sub a z),by rw [zad,zad,tl,ol],?_⟩
  ·rw [zao] at hu;obtain ⟨u',hu,eu⟩:=zab.mp hu;cases eu;rcases tg j u hu with q | ⟨i,q,qe⟩
   ·obtain ⟨v,d,b1,b2,b3⟩:=a1 j u q;refine ⟨v,d,by rw [zao,b1]; rfl,c1 j d b2,?_⟩;rw [rq2 j fun i z=>by rw [b2] at z; cases z];exact Ow.grow sub u (fun _ z=>z) b3
   ·obtain ⟨v,b1,b2,b3⟩:=a2 j i q;obtain ⟨v',d,g1,g2,g3⟩:=P.env.at_ i u qe;rw [b3] at g1;cases g1;obtain ⟨qd,q1,q2⟩:=c2 j i b2;rw [g2] at q2;cases q2;refine ⟨v,d,by rw [zao,b1]; rfl,q1,?_⟩;rw [rq1 j i b2];exact Ow.grow sub u (fun _ z=>z) g3
  ·rcases rqc j a z with ⟨i,q,z⟩ | z <;> rcases rqc j' a z' with ⟨i',q',z'⟩ | z'
   ·have:=P.env.dj i i' a z z';subst this;exact c3 j j' i q q'
   ·exact absurd (.inl (a3 j' a z')) (P.env.dx i a z)
   ·exact absurd (.inl (a3 j a z)) (P.env.dx i' a z')
   ·exact a4 j j' a z z'
  ·rcases rqc j a z with ⟨i,q,z⟩ | z
   ·rcases z2 with z2 | ⟨i',z2,n⟩
    ·exact P.env.dx i a z (.inr z2)
    ·have:=P.env.dj i i' a z z2;subst this;exact n j q
   ·rcases z2 with z2 | ⟨i',z2,n⟩
    ·exact P.fx a (a3 j a z) z2
    ·exact P.env.dx i' a z2 (.inl (a3 j a z))
  ·have:=o.shl;rw [zad];omega
 rw [List.append_nil];refine ⟨Oxp,ts,Rq,r,outs,ec,h3,fun v H2 R2 Fr Pc oc=>?_⟩;have outl:outs.length=as.length:=by rw [Pc.env.l1,zad]; exact ol
 classical
 let R3:Nat->AS:=fun i=>if q:∃ j:Nat,sh[j]?=some (.inr i) then R2 q.choose else R1 i
 have r31:∀ (i j:Nat),sh[j]?=some (.inr i)->R3 i=R2 j:=fun i j z=>by
  have q:∃ j:Nat,sh[j]?=some (.inr i):=⟨j,z⟩
  have:q.choose=j:=c3 _ _ i q.choose_spec z;show (if q:∃ j:Nat,sh[j]?=some (.inr i) then R2 q.choose else R1 i)=R2 j;rw [dif_pos q,this]
 have r32:∀ i:Nat,(∀ j:Nat,sh[j]?≠some (.inr i))->R3 i=R1 i:=fun i z=>by
  show (if q:∃ j:Nat,sh[j]?=some (.inr i) then R2 q.choose else R1 i)=R1 i;rw [dif_neg fun ⟨j,q⟩=>z j q]
 have r3c:∀ (i:Nat) a,R3 i a->(∃ j:Nat,sh[j]?=some (.inr i)/\R2 j a)\/((∀ j:Nat,sh[j]?≠some (.inr i))/\R1 i a):=fun i a z=>by
  by_cases q:∃ j:Nat,sh[j]?=some (.inr i)
  ·obtain ⟨j,q⟩:=q;rw [r31 i j q] at z;exact .inl ⟨j,q,z⟩
  ·rw [r32 i fun j z=>q ⟨j,z⟩] at z;exact .inr ⟨fun j z=>q ⟨j,z⟩,z⟩
 have sub3:∀ a,Own R3 (U Fr Ox) a->Own R2 (U Fr Oxp) a:=fun a z=>by
  rcases z with ⟨i,z⟩ | z | z
  ·rcases r3c i a z with ⟨j,_,z⟩ | ⟨n,z⟩
   ·exact .inl ⟨j,z⟩
   ·exact .inr (.inr (.inr ⟨i,z,n⟩))
  ·exact .inr (.inl z)
  ·exact .inr (.inr (.inl z))
 have back:∀ a,(Fr a\/∃ j,R2 j a)->Own R1 (U F0 Ox) a\/H1 a=none:=fun a z=>by
  rcases Pc.own a z with ⟨j,z⟩ | z
  ·exact .inl (sub a (.inl ⟨j,z⟩))
  ·exact .inr z
 have back2:∀ a,(Fr a\/∃ j,R2 j a)->(F0 a\/∃ i,R1 i a)\/H1 a=none:=fun a z=>by
  rcases Pc.own a z with ⟨j,z⟩ | z
  ·rcases rqc j a z with ⟨i,_,z⟩ | z
   ·exact .inl (.inr ⟨i,z⟩)
   ·exact .inl (.inl (a3 j a z))
  ·exact .inr z
 have n1:∀ a,H1 a=none->H a=none:=fun a z=>by
  cases q:H a with
  | none=>rfl
  | some o =>
   obtain ⟨o',q'⟩:=P.dom a o q;rw [z] at q';cases q'
 have rqsub:∀ j a,Rq j a->Own R1 (U F0 Ox) a:=fun j a z=>sub a (.inl ⟨j,z⟩);have env3:EnvOk K ds1 (U Fr Ox) H2 σ (wb as outs en1) R3:=by
  refine ⟨fun i u hu=>?_,fun i i' a z z'=>?_,fun i a z z2=>?_,fun a z=>Pc.env.dom a (sub3 a z),by rw [mV]; exact P.env.l1,P.env.l2⟩
  ·by_cases q:∃ j:Nat,as[j]?=some (.inr i)
   ·obtain ⟨j,q⟩:=q;obtain ⟨v,b1,b2,b3⟩:=a2 j i q;have hil:i < en1.length:=by rw [P.env.l1]; exact (zah.mp b3).1
    rw [oP as outs en1 i j q (fun j' z=>c3 j' j i (asl j' i z) b2) outl hil] at hu;obtain ⟨v',d,g1,g2,g3⟩:=Pc.env.at_ j u hu;rw [zao,b1] at g1;cases g1;obtain ⟨qd,q1,q2⟩:=c2 j i b2;rw [g2] at q1;cases q1;refine ⟨v,d,b3,q2,?_⟩;rw [r31 i j b2];exact Ow.grow sub3 u (fun _ z=>z) g3
   ·rw [i7 as outs en1 i fun j z=>q ⟨j,z⟩] at hu;have ns:∀ j:Nat,sh[j]?≠some (.inr i):=fun j z=>q ⟨j,asr j i z⟩;obtain ⟨v,d,g1,g2,g3⟩:=P.env.at_ i u hu;refine ⟨v,d,g1,g2,?_⟩;rw [r32 i ns];refine Ow.mv (G:=R1 i) ⟨fun a o q z=>Pc.keep a o q fun j zj=>?_,fun a z=>?_⟩ u (fun _ z=>z) g3
    ·rcases z with z | z
     ·exact z (rqsub j a zj)
     ·rcases rqc j a zj with ⟨i',q',z'⟩ | z'
      ·have:=P.env.dj i i' a z z';subst this;exact ns j q'
      ·exact P.env.dx i a z (.inl (a3 j a z'))
    ·rcases z with ⟨i',z⟩ | z | z
     ·rcases r3c i' a z with ⟨j,_,z⟩ | ⟨n,z⟩
      ·exact back a (.inr ⟨j,z⟩)
      ·exact .inl (.inl ⟨i',z⟩)
     ·exact back a (.inl z)
     ·exact .inl (.inr (.inr z))
  ·rcases r3c i a z with ⟨j,q,z⟩ | ⟨n,z⟩ <;> rcases r3c i' a z' with ⟨j',q',z'⟩ | ⟨n',z'⟩
   ·have:=Pc.env.dj j j' a z z';subst this;rw [q] at q';cases q';rfl
   ·exact absurd (.inr (.inr ⟨i',z',n'⟩)) (Pc.env.dx j a z)
   ·exact absurd (.inr (.inr ⟨i,z,n⟩)) (Pc.env.dx j' a z')
   ·exact P.env.dj i i' a z z'
  ·rcases r3c i a z with ⟨j,q,z⟩ | ⟨n,z⟩
   ·exact Pc.env.dx j a z (z2.imp id .inl)
   ·rcases z2 with z2 | z2
    ·exact Pc.fx a z2 (.inr ⟨i,z,n⟩)
    ·exact P.env.dx i a z (.inr z2)
 refine k v H2 R3 Fr ⟨env3,fun a z z2=>Pc.fx a z (.inl z2),fun a o q n=>?_,fun a z=>?_,fun a o q=>?_,fun hp=>?_⟩ (Ow.grow sub3 r (fun _ z=>z) oc)
 ·refine Pc.keep a o (P.keep a o q n) fun j z=>?_;have nn:∀ i,¬ R1 i a:=fun i z=>by
   rcases P.own a (.inr ⟨i,z⟩) with ⟨i',z⟩ | z
   ·exact n i' z
   ·rw [q] at z; cases z
  rcases rqc j a z with ⟨i,_,z⟩ | z
  ·exact nn i z
  ·rcases P.own a (.inl (a3 j a z)) with ⟨i',z⟩ | z
   ·exact n i' z
   ·rw [q] at z; cases z
 ·have:(F0 a\/∃ i,R1 i a)\/H1 a=none:=by
   rcases z with z | ⟨i,z⟩
   ·exact back2 a (.inl z)
   ·rcases r3c i a z with ⟨j,_,z⟩ | ⟨n,z⟩
    ·exact back2 a (.inr ⟨j,z⟩)
    ·exact .inl (.inr ⟨i,z⟩)
  rcases this with z | z
  ·exact P.own a z
  ·exact .inr (n1 a z)
 ·obtain ⟨o',q'⟩:=P.dom a o q;exact Pc.dom a o' q'
 ·obtain ⟨hp1,hp2⟩:=(Bool.and_eq_true _ _ ▸ hp:p=true/\gi sh=true);obtain ⟨b1,b2,b3⟩:=P.pure hp1;have ns:=kQ hp2;refine ⟨?_,?_,fun a o q=>?_⟩
  ·show wb as outs en1=en;rw [<- b1];refine List.ext_getElem? fun i=>?_;exact i7 as outs en1 i fun j z=>ns j i (asl j i z)
  ·rw [<- b2]
   funext i
   exact r32 i fun j=>ns j i
  ·refine Pc.keep a o (b3 a o q) fun j z=>?_;rcases rqc j a z with ⟨i,z,_⟩ | z
   ·exact ns j i z
   ·have zf:=a3 j a z;rcases P.own a (.inl zf) with ⟨i,z2⟩ | z2
    ·rw [<- b2] at z2;exact P.env.dx i a z2 (.inl zf)
    ·rw [q] at z2; cases z2
end
inductive Fl where
 | nx (en:En) | rt (t:D) (en:En) | ct (en:En)
abbrev MS:=En->Option Fl
structure Jd where
 lk:List Nat
 dsr:List Nat
 dr:Nat
 dsl:List Nat
structure PostS (K:PySem.W.Frag) (lk:List Nat) (ds':List Nat) (Ox:AS) (σ:St) (H:Hp) (R:Nat->AS) (σ':St) (en':En) (H':Hp) (R':Nat->AS) (F:AS):Prop where
 env:EnvOk K ds' (U F Ox) H' σ' en' R'
 fx:∀ a,F a->¬ Ox a
 keep:∀ a o,H a=some o->(∀ i,¬ R i a)->H' a=some o
 own:∀ a,(F a\/∃ i,R' i a)->(∃ i,R i a)\/H a=none
 dom:∀ a o,H a=some o->∃ o',H' a=some o'
 lk:∀ j∈lk,σ'[j]?=σ[j]?
def tFS (K:PySem.W.Frag) (J:Jd) (ds ds':List Nat) (f:MS):TS:=fun D σ H =>
 ∃ Ox en R fl,EnvOk K ds Ox H σ en R/\f en=some fl/\match fl with
  | .nx en'=>∀ σ' H' R',PostS K J.lk ds' Ox σ H R σ' en' H' R' NoA->D.nx σ' H'
  | .ct en'=>∀ σ' H' R',PostS K J.lk J.dsl Ox σ H R σ' en' H' R' NoA->D.ct σ' H'
  | .rt t en'=>∀ v σ' H' R' F,PostS K J.lk J.dsr Ox σ H R σ' en' H' R' F->Ow K (Own R' (U F Ox)) H' t J.dr v F->D.rt v H'
def ao (f g:MS):MS:=fun en=>(f en).bind fun fl=>match fl with
 | .nx en1=>g en1
 | .rt t en1=>some (.rt t en1)
 | .ct en1=>some (.ct en1)
def aA (i:Nat) (f:ME):MS:=fun en=>(f en).map fun r=>.nx (r.2.set i (some r.1))
def lF (f:ME):MS:=fun en=>(f en).map fun r=>.nx r.2
def aD (f:ME):MS:=fun en=>(f en).map fun r=>.rt r.1 r.2
def Gz:MS:=fun en=>some (.rt .none en)
def aW:MS:=fun en=>some (.nx en)
def GA:MS:=fun en=>some (.ct en)
def Gr:MS:=fun _=>none
def sIf (c:MT) (f g:MS):MS:=fun en=>(c en).bind fun r=>if r.1 then f r.2 else g r.2
section
variable {K:PySem.W.Frag} {p p1 p2:Bool} {J:Jd} {lk:List Nat} {ds ds0 ds1 ds2 ds':List Nat} {Ox Ox' O O':AS} {H H':Hp} {σ σ':St} {en en' en1 en2:En} {R R':Nat->AS} {d d' d1 d2 dr:Nat} {t t1 t2:D} {f f1 f2:ME} {c:MT} {m m1 m2:MS} {i:Nat} {D:Ends}
def PostS.refl (e:EnvOk K ds Ox H σ en R):PostS K lk ds Ox σ H R σ en H R NoA :=
 ⟨by rw [eJ]; exact e,fun _ z=>z.elim,fun _ _ q _=>q,fun a z=>z.elim (fun z=>z.elim) .inl,fun a o q=>⟨o,q⟩,fun _ _=>rfl⟩
def PostS.env0 {F:AS} (P:PostS K lk ds' Ox σ H R σ' en' H' R' F):EnvOk K ds' Ox H' σ' en' R':=P.env.fewer fun a z=>.inr z
def PostS.less {F F':AS} (P:PostS K lk ds' Ox σ H R σ' en' H' R' F) (h:∀ a,F' a->F a):PostS K lk ds' Ox σ H R σ' en' H' R' F' :=
 ⟨P.env.fewer fun a z=>z.imp (h a) id,fun a z=>P.fx a (h a z),P.keep,fun a z=>P.own a (z.imp (h a) id),P.dom,P.lk⟩
def PostS.after {σ1 σ2:St} {H1:Hp} {R1 R2:Nat->AS} {F:AS} (P1:PostS K lk ds1 Ox σ H R σ1 en1 H1 R1 NoA) (P2:PostS K lk ds2 Ox σ1 H1 R1 σ2 en2 H' R2 F):PostS K lk ds2 Ox σ H R σ2 en2 H' R2 F:=by
 have n1:∀ a,H1 a=none->H a=none:=fun a z=>by
  cases q:H a with
  | none=>rfl
  | some o =>
   obtain ⟨o',q'⟩:=P1.dom a o q;rw [z] at q';cases q'
 refine ⟨P2.env,P2.fx,fun a o q n=>?_,fun a z=>?_,fun a o q=>?_,fun j hj=>(P2.lk j hj).trans (P1.lk j hj)⟩
 ·refine P2.keep a o (P1.keep a o q n) fun i z=>?_;rcases P1.own a (.inr ⟨i,z⟩) with ⟨j,z⟩ | z
  ·exact n j z
  ·rw [q] at z; cases z
 ·rcases P2.own a z with z | z
  ·exact P1.own a (.inr z)
  ·exact .inr (n1 a z)
 ·obtain ⟨o',q'⟩:=P1.dom a o q;exact P2.dom a o' q'
def Post.s {F:AS} (P:Post K p ds' Ox σ H en R en' H' R' F):PostS K lk ds' Ox σ H R σ en' H' R' F:=⟨P.env,P.fx,P.keep,P.own,P.dom,fun _ _=>rfl⟩
def PostS.cut {F:AS} (P:PostS K lk ds1 Ox σ H R σ' en' H' R' F) (hd:leD ds2 ds1=true):∃ R2,(∀ i a,R2 i a->R' i a)/\PostS K lk ds2 Ox σ H R σ' en' H' R2 F:=by
 obtain ⟨R2,s1,e2⟩:=P.env.cut (eW hd).1 (eW hd).2;exact ⟨R2,s1,e2,P.fx,P.keep,fun a z=>P.own a (z.imp id fun ⟨i,z⟩=>⟨i,s1 i a z⟩),P.dom,P.lk⟩
def Ec (h:tFS K J ds ds aW D σ H):zg D σ H:=by
 obtain ⟨Ox,en,R,fl,e,hf,k⟩:=h;cases hf;exact k σ H R (PostS.refl e)
def Ea (h:tFS K J ds ds2 (ao m1 m2) D σ H):CU (tFS K J ds ds1 m1) (tFS K J ds1 ds2 m2) D σ H:=by
 obtain ⟨Ox,en,R,fl,e,hf,k⟩:=h;unfold ao at hf;obtain ⟨fl1,h1,hf⟩:=zaa.mp hf;refine ⟨Ox,en,R,fl1,e,h1,?_⟩;cases fl1 with
 | nx en1 =>
  intro σ1 H1 R1 P1;refine ⟨Ox,en1,R1,fl,P1.env0,hf,?_⟩;cases fl with
  | nx en2=>exact fun σ2 H2 R2 P2=>k σ2 H2 R2 (P1.after P2)
  | ct en2=>exact fun σ2 H2 R2 P2=>k σ2 H2 R2 (P1.after P2)
  | rt t en2=>exact fun v σ2 H2 R2 F P2 o=>k v σ2 H2 R2 F (P1.after P2) o
 | ct en1=>cases hf; exact k
 | rt t en1=>cases hf; exact k
def D8 (hd:leD ds1 ds2=true) (h:tFS K J ds ds1 m D σ H):tFS K J ds ds2 m D σ H:=by
 obtain ⟨Ox,en,R,fl,e,hf,k⟩:=h;refine ⟨Ox,en,R,fl,e,hf,?_⟩;cases fl with
 | nx en2 =>
  intro σ2 H2 R2 P2;obtain ⟨R3,_,P3⟩:=P2.cut hd;exact k σ2 H2 R3 P3
 | ct en2=>exact k
 | rt t en2=>exact k
def Ee (h:tFS K J ds ds1 (lF f) D σ H):zh (tF K p ds ds1 d f) D σ H:=by
 obtain ⟨Ox,en,R,fl,e,hf,k⟩:=h;unfold lF at hf;obtain ⟨⟨t,en1⟩,h1,hf⟩:=zab.mp hf;cases hf;exact ⟨Ox,en,R,t,en1,e,h1,fun v H1 R1 F P o=>k σ H1 R1 (P.s.less fun _ z=>z.elim)⟩
def Eb (hd:leD J.dsr ds1=true) (h:tFS K J ds ds' (aD f) D σ H):CV (tF K p ds ds1 J.dr f) D σ H:=by
 obtain ⟨Ox,en,R,fl,e,hf,k⟩:=h;unfold aD at hf;obtain ⟨⟨t,en1⟩,h1,hf⟩:=zab.mp hf;cases hf;refine ⟨Ox,en,R,t,en1,e,h1,fun v H1 R1 F P o=>?_⟩;obtain ⟨R2,s1,P2⟩:=(P.s (lk:=J.lk)).cut hd;exact k v σ H1 R2 F P2 (Ow.grow (fun a z=>z.imp (fun ⟨i,z⟩=>⟨i,s1 i a z⟩) id) t (fun _ z=>z) o)
def Fs (h:tFS K J ds ds2 (sIf c m1 m2) D σ H):C0 (tFT K p ds ds1 c) (tFS K J ds1 ds2 m1) (tFS K J ds1 ds2 m2) D σ H:=by
 obtain ⟨Ox,en,R,fl,e,hf,k⟩:=h;unfold sIf at hf;obtain ⟨⟨b,en1⟩,h1,hf⟩:=zaa.mp hf;refine ⟨Ox,en,R,b,en1,e,h1,fun H1 R1 P1=>?_⟩;have fin:∀ m,m en1=some fl->tFS K J ds1 ds2 m D σ H1:=fun m hm=>by
  refine ⟨Ox,en1,R1,fl,P1.env0,hm,?_⟩;cases fl with
  | nx en2=>exact fun σ2 H2 R2 P2=>k σ2 H2 R2 (P1.s.after P2)
  | ct en2=>exact fun σ2 H2 R2 P2=>k σ2 H2 R2 (P1.s.after P2)
  | rt t en2=>exact fun v σ2 H2 R2 F P2 o=>k v σ2 H2 R2 F (P1.s.after P2) o
 cases b with
 | true=>exact fin m1 hf
 | false=>exact fin m2 hf
def PostS.store {F:AS} {v:V} (P:Post K p ds1 Ox σ H en R en1 H' R' F) (o:Ow K (Own R' (U F Ox)) H' t d v F) (hi:i < ds1.length) (hl:i ∉ lk) :
  PostS K lk (ds1.set i d) Ox σ H R (σ.set i (some v)) (en1.set i (some t)) H' (fun j=>if j=i then F else R' j) NoA:=by
 have l1:=P.env.l1;have l2:=P.env.l2;have sub:∀ a,Own (fun j=>if j=i then F else R' j) Ox a->Own R' (U F Ox) a:=fun a z=>by
  rcases z with ⟨j,z⟩ | z
  ·by_cases hj:j=i
   ·rw [if_pos hj] at z; exact .inr (.inl z)
   ·rw [if_neg hj] at z; exact .inl ⟨j,z⟩
  ·exact .inr (.inr z)
 refine ⟨?_,fun _ z=>z.elim,P.keep,fun a z=>?_,P.dom,fun j hj=>?_⟩
 ·rw [eJ];refine ⟨fun j u hu=>?_,fun j j' a z z'=>?_,fun j a z z2=>?_,fun a z=>P.env.dom a (sub a z),by rw [zaV,zaV]; exact l1,by rw [zaV,zaV]; exact l2⟩
  ·by_cases hj:j=i
   ·subst hj;rw [zaP (by omega)] at hu;cases hu;refine ⟨v,d,zaP (by omega),zaP hi,?_⟩;rw [if_pos rfl];exact Ow.grow sub t (fun _ z=>z) o
   ·rw [zaO (Ne.symm hj)] at hu;obtain ⟨v',d',g1,g2,g3⟩:=P.env.at_ j u hu;refine ⟨v',d',by rw [zaO (Ne.symm hj)]; exact g1,by rw [zaO (Ne.symm hj)]; exact g2,?_⟩;rw [if_neg hj];exact Ow.grow sub u (fun _ z=>z) g3
  ·by_cases hj:j=i <;> by_cases hj':j'=i
   ·rw [hj,hj']
   ·rw [if_pos hj] at z; rw [if_neg hj'] at z';exact absurd (.inl z) (P.env.dx j' a z')
   ·rw [if_neg hj] at z; rw [if_pos hj'] at z';exact absurd (.inl z') (P.env.dx j a z)
   ·rw [if_neg hj] at z; rw [if_neg hj'] at z';exact P.env.dj j j' a z z'
  ·by_cases hj:j=i
   ·rw [if_pos hj] at z;exact P.fx a z z2
   ·rw [if_neg hj] at z;exact P.env.dx j a z (.inr z2)
 ·rcases z with z | ⟨j,z⟩
  ·exact z.elim
  ·by_cases hj:j=i
   ·rw [if_pos hj] at z; exact P.own a (.inl z)
   ·rw [if_neg hj] at z; exact P.own a (.inr ⟨j,z⟩)
 ·rw [zaO];intro z;subst z;exact hl hj
def D9 (hi:i < ds1.length) (hl:i ∉ J.lk) (h:tFS K J ds (ds1.set i d) (aA i f) D σ H):oW (tF K p ds ds1 d f) (mR i) D σ H:=by
 obtain ⟨Ox,en,R,fl,e,hf,k⟩:=h;unfold aA at hf;obtain ⟨⟨t,en1⟩,h1,hf⟩:=zab.mp hf;cases hf;exact ⟨Ox,en,R,t,en1,e,h1,fun v H1 R1 F P o=>k _ H1 _ (PostS.store P o hi hl)⟩
abbrev MG:=PyData->En->Option En
def tFG (K:PySem.W.Frag) (lk:List Nat) (ds ds':List Nat) (g:MG):TG:=fun v σ H Q =>
 ∃ Ox en R t en',EnvOk K ds Ox H σ en R/\Ow K (Own R Ox) H t 0 v NoA/\g t en=some en'/\∀ σ' R',PostS K lk ds' Ox σ H R σ' en' H R' NoA->(∀ j∈lk,R' j=R j)->Q σ' H
def gN (i:Nat):MG:=fun t en=>some (en.set i (some t))
def gs0:List PyData->En->Option En:=fun ts en=>match ts with
 | []=>some en
 | _=>none
def gsC (g:MG) (r:List PyData->En->Option En):List PyData->En->Option En:=fun ts en=>match ts with
 | t :: ts=>(g t en).bind fun en1=>r ts en1
 | []=>none
def gT (g:List PyData->En->Option En):MG:=fun t en=>match t with
 | .tuple ts=>g ts en
 | _=>none
variable {g g1:MG} {gs:List PyData->En->Option En} {v:V} {vs:List V} {QS:St->Hp->Prop}
def AM (hi:i < ds.length) (hl:i ∉ lk) (h:tFG K lk ds (ds.set i 0) (gN i) v σ H QS):mR i v σ H QS:=by
 obtain ⟨Ox,en,R,t,en',e,o,hf,k⟩:=h;cases hf;exact k _ _ (PostS.store (p:=true) (Post.refl e) (by rw [show (fun _=>False:AS)=NoA from rfl,eJ]; exact o) hi hl) fun j hj=>if_neg (fun (z:j=i)=>hl (by rw [<- z]; exact hj))
abbrev MI:=En->Option (List PyData × En)
def nO (K:PySem.W.Frag) (O:AS) (H0:Hp) (J:It) (ts:List PyData):Prop :=
 ∀ (i:Nat) (H:Hp) (O1:AS),(∀ a o,H0 a=some o->¬ O a->H a=some o)->(∀ a,O1 a->O a\/H0 a=none)->(∀ a,O1 a->∃ o,H a=some o) ->
  (∀ t,ts[i]?=some t->J.go i H/\∀ x H1,J.yld i H x H1->(∀ a o,H a=some o->H1 a=some o)/\Ow K O1 H1 t 0 x NoA)/\(ts.length=i->J.stop i H)
def tFI (K:PySem.W.Frag) (p:Bool) (ds ds':List Nat) (f:MI):TI:=fun σ H RJ =>
 ∃ Ox en R ts en',EnvOk K ds Ox H σ en R/\f en=some (ts,en')/\∀ J H' R',Post K p ds' Ox σ H en R en' H' R' NoA->nO K (Own R' Ox) H' J ts->RJ J H'
def dL (g:MG) (b:MS):List PyData->En->Option Fl
 | [],en=>some (.nx en)
 | t :: ts,en=>(g t en).bind fun en1=>(b en1).bind fun fl=>match fl with
  | .nx en2=>dL g b ts en2
  | .ct en2=>dL g b ts en2
  | .rt r en2=>some (.rt r en2)
def eU (fi:MI) (g:MG) (b:MS):MS:=fun en=>(fi en).bind fun r=>dL g b r.1 r.2
def Ed {fi:MI} (h:tFS K J ds ds1 (eU fi g m) D σ H):C1 (tFI K p ds ds1 fi) (tFG K J.lk ds1 ds2 g) (tFS K { J with dsl:=ds1 } ds2 ds1 m) D σ H:=by
 obtain ⟨Ox,en,R,fl,e,hf,k⟩:=h;unfold eU at hf;obtain ⟨⟨ts,en1⟩,h1,hf⟩:=zaa.mp hf;refine ⟨Ox,en,R,ts,en1,e,h1,fun Jt H1 R1 P1 wk=>?_⟩;refine ⟨fun i n σ' H'=>∃ en' R',n=ts.length - i/\i<=ts.length/\PostS K J.lk ds1 Ox σ H1 R1 σ' en' H' R' NoA/\dL g m (ts.drop i) en'=some fl,⟨_,en1,R1,rfl,Nat.zero_le _,PostS.refl P1.env0,hf⟩,?_⟩;rintro i n σ2 H2 ⟨en2,R2,rfl,hi,P2,hr⟩;obtain ⟨w1,w2⟩:=wk i H2 (Own R2 Ox) (fun a o q z=>P2.keep a o q fun j zj=>z (.inl ⟨j,zj⟩)) (fun a z=>by
  rcases z with z | z
  ·exact (P2.own a (.inr z)).imp .inl id
  ·exact .inl (.inr z)) fun a z=>P2.env0.dom a z
 by_cases hlt:i < ts.length
 ·obtain ⟨go,yl⟩:=w1 ts[i] (zak hlt);have hd:ts.drop i=ts[i] :: ts.drop (i+1):=List.drop_eq_getElem_cons hlt;rw [hd] at hr;obtain ⟨en3,h3,hr⟩:=zaa.mp hr;obtain ⟨fl2,h4,hr⟩:=zaa.mp hr;refine .inr ⟨go,fun σ' H'=>∃ en' R',PostS K J.lk ds1 Ox σ H1 R1 σ' en' H' R' NoA/\dL g m (ts.drop (i+1)) en'=some fl,fun σ' H' ⟨en',R',P',h'⟩=>⟨ts.length - (i+1),by omega,en',R',rfl,hlt,P',h'⟩,fun x H3 y=>?_⟩;obtain ⟨gr,ox⟩:=yl x H3 y;have P3:Post K true ds1 Ox σ2 H2 en2 R2 en2 H3 R2 NoA:=Post.new P2.env0 gr fun _ z=>z.elim;refine ⟨Ox,en2,R2,ts[i],en3,P3.env0,ox,h3,fun σ4 R4 P4 _=>?_⟩;have P4':=(P2.after P3.s).after P4;refine ⟨Ox,en3,R4,fl2,P4.env0,h4,?_⟩;cases fl2 with
  | nx en5=>exact fun σ5 H5 R5 P5=>⟨en5,R5,P4'.after P5,hr⟩
  | ct en5=>exact fun σ5 H5 R5 P5=>⟨en5,R5,P4'.after P5,hr⟩
  | rt t en5 =>
   cases hr;exact fun v σ5 H5 R5 F P5 o=>k v σ5 H5 R5 F (P1.s.after (P4'.after P5)) o
 ·have e2:i=ts.length:=by omega
  subst e2;rw [List.drop_length] at hr;cases hr;exact .inl ⟨w2 rfl,k σ2 H2 R2 (P1.s.after P2)⟩
end
def lcF (g:MG) (c:MT) (f:ME):List D->List D->En->Option (List D × En)
 | [],acc,en=>some (acc,en)
 | t :: ts,acc,en=>(g t en).bind fun en1=>(c en1).bind fun r=>if r.1 then (f r.2).bind fun q=>if acc.length < sizeLine then lcF g c f ts (acc++[q.1]) q.2 else none else lcF g c f ts acc r.2
def de (js:List (Option Nat)) (en:En):En:=js.map fun j=>match j with
 | some j=>(en[j]?).join
 | none=>none
def wbB:List (Option Nat)->En->En->En
 | some j :: js,o :: r,en=>wbB js r (en.set j o)
 | none :: js,_ :: r,en=>wbB js r en
 | _,_,en=>en
def eLC (q:Bool) (fi:MI) (g:MG) (c:MT) (f:ME) (js:List (Option Nat)):ME:=fun en=>(fi en).bind fun r=>(lcF g c f r.1 [] (de js r.2)).map fun z=>(.list z.1,if q then r.2 else wbB js z.2 r.2)
def ia (ds:List Nat):List (Option Nat)->List Nat->Bool
 | [],[]=>true
 | some j :: js,d :: r=>decide (ds[j]?=some d) && (decide (some j ∉ js) && ia ds js r)
 | none :: js,_ :: r=>ia ds js r
 | _,_=>false
section
variable {K:PySem.W.Frag} {p p1 p2 q:Bool} {lk:List Nat} {ds ds0 ds1 ds2 ds' dsi:List Nat} {Ox Ox' O O':AS} {H H':Hp} {σ σ':St} {en en' en1 en2:En} {R R':Nat->AS} {d d' d1 d2 dr:Nat} {t t1 t2:D} {Q:VK} {f f1 f2:ME} {c:MT} {g:MG} {fi:MI} {i:Nat} {js:List (Option Nat)}
def kx:∀ {js:List (Option Nat)} {dsi:List Nat},ia ds js dsi=true->dsi.length=js.length/\(∀ (k j:Nat),js[k]?=some (some j)->∃ d,dsi[k]?=some d/\ds[j]?=some d)/\(∀ (k k' j:Nat),js[k]?=some (some j)->js[k']?=some (some j)->k=k')
 | [],[],_=>⟨rfl,fun k j z=>by simp at z,fun k k' j z=>by simp at z⟩
 | some j0 :: js,d :: r,h=>by
  unfold ia at h;rw [Bool.and_eq_true,Bool.and_eq_true] at h;obtain ⟨h1,h2,h3⟩:=h;obtain ⟨a,b,c⟩:=kx h3;have n:=of_decide_eq_true h2;refine ⟨by rw [zac,zac,a],fun k j z=>?_,fun k k' j z z'=>?_⟩
  ·cases k with
   | zero=>simp at z; subst z; exact ⟨d,rfl,of_decide_eq_true h1⟩
   | succ k=>exact b k j (by simpa using z)
  ·cases k with
   | zero =>
    simp at z;subst z;cases k' with
    | zero=>rfl
    | succ k'=>exact absurd (zaX (by simpa using z':js[k']?=some (some j0))) n
   | succ k =>
    cases k' with
    | zero =>
     simp at z';subst z';exact absurd (zaX (by simpa using z:js[k]?=some (some j0))) n
    | succ k'=>rw [c k k' j (by simpa using z) (by simpa using z')]
 | none :: js,d :: r,h=>by
  unfold ia at h;obtain ⟨a,b,c⟩:=kx h;refine ⟨by rw [zac,zac,a],fun k j z=>?_,fun k k' j z z'=>?_⟩
  ·cases k with
   | zero=>simp at z
   | succ k=>exact b k j (by simpa using z)
  ·cases k with
   | zero=>simp at z
   | succ k =>
    cases k' with
    | zero=>simp at z'
    | succ k'=>rw [c k k' j (by simpa using z) (by simpa using z')]
 | [],_ :: _,h=>nomatch h
 | some _ :: _,[],h=>nomatch h
 | none :: _,[],h=>nomatch h
def lC:∀ (js:List (Option Nat)) (r en:En),(wbB js r en).length=en.length
 | [],_,_=>by unfold wbB; rfl
 | some _ :: _,[],_=>by unfold wbB; rfl
 | none :: _,[],_=>by unfold wbB; rfl
 | some j :: js,o :: r,en=>by unfold wbB; rw [lC js r _,zaV]
 | none :: js,o :: r,en=>by unfold wbB; exact lC js r _
def jI:∀ (js:List (Option Nat)) (r en:En) (i:Nat),(∀ k:Nat,js[k]?≠some (some i))->(wbB js r en)[i]?=en[i]?
 | [],_,_,_,_=>by unfold wbB; rfl
 | some _ :: _,[],_,_,_=>by unfold wbB; rfl
 | none :: _,[],_,_,_=>by unfold wbB; rfl
 | none :: js,o :: r,en,i,h=>by unfold wbB; exact jI js r en i fun j=>h (j+1)
 | some k :: js,o :: r,en,i,h=>by
  unfold wbB;rw [jI js r _ i fun j=>h (j+1),zaO];intro e;subst e;exact h 0 rfl
def mW:∀ (js:List (Option Nat)) (r en:En) (i k:Nat),js[k]?=some (some i)->(∀ k':Nat,js[k']?=some (some i)->k'=k)->r.length=js.length->i < en.length->(wbB js r en)[i]?=r[k]?
 | [],_,_,_,_,h,_,_,_=>by simp at h
 | some _ :: js,[],_,_,_,_,_,h,_=>by simp at h
 | none :: js,[],_,_,_,_,_,h,_=>by simp at h
 | none :: js,o :: r,en,i,k,h,u,l,b=>by
  unfold wbB;cases k with
  | zero=>simp at h
  | succ k=>exact mW js r en i k (by simpa using h) (fun j' z=>by have:=u (j'+1) (by simpa using z); omega) (by simpa using l) b
 | some j :: js,o :: r,en,i,k,h,u,l,b=>by
  unfold wbB;cases k with
  | zero =>
   have e:j=i:=by simpa using h
   subst e;rw [jI js r _ j fun j' z=>by have:=u (j'+1) (by simpa using z); omega];rw [zaP b];rfl
  | succ k=>exact mW js r _ i k (by simpa using h) (fun j' z=>by have:=u (j'+1) (by simpa using z); omega) (by simpa using l) (by rw [zaV]; exact b)
def Ows.snoc:∀ {ts:List D} {vs:List V} {F1 F2:AS} {v:V},Ows K O H ts d vs F1->Ow K O H t d v F2->(∀ b,F1 b->¬ F2 b)->Ows K O H (ts++[t]) d (vs++[v]) (U F1 F2)
 | [],vs,F1,F2,v,h,h2,_=>by
  have e:vs=[]:=h;subst e;exact ⟨v,[],F2,NoA,rfl,fun _ z=>.inr z,fun _ z=>z.elim,fun _ _ z=>z.elim,h2,rfl⟩
 | u :: ts,vs,F1,F2,v,h,h2,hd=>by
  obtain ⟨w,r,G1,G2,e,s1,s2,s3,h4,h5⟩:=h;subst e;refine ⟨w,r++[v],G1,U G2 F2,rfl,fun b z=>.inl (s1 b z),fun b z=>z.imp (s2 b) id,fun b z z2=>?_,h4,Ows.snoc h5 h2 fun b z=>hd b (s2 b z)⟩;rcases z2 with z2 | z2
  ·exact s3 b z z2
  ·exact hd b (s1 b z) z2
def Ows.len:∀ {ts:List D} {vs:List V} {F:AS},Ows K O H ts d vs F->vs.length=ts.length
 | [],_,_,h=>by rw [show _=[] from h]; rfl
 | t :: ts,_,_,h=>by
  obtain ⟨v,r,F1,F2,e,h1,h2,h3,h4,h5⟩:=h;rw [e,zac,zac,h5.len]
def h9:List (Option Nat)->Nat->List Nat
 | [],_=>[]
 | some _ :: r,n=>n :: h9 r (n+1)
 | none :: r,n=>h9 r (n+1)
def iE:∀ {js:List (Option Nat)} {n k j:Nat},js[k]?=some (some j)->n+k∈h9 js n
 | [],n,k,j,h=>by simp at h
 | some x :: r,n,k,j,h=>by
  unfold h9;cases k with
  | zero=>exact zaq
  | succ k =>
   refine zaj _ ?_
   have:=iE (n:=n+1) (k:=k) (j:=j) (by simpa using h);rw [show n+(k+1)=n+1+k by omega];exact this
 | none :: r,n,k,j,h=>by
  unfold h9;cases k with
  | zero=>simp at h
  | succ k =>
   have:=iE (n:=n+1) (k:=k) (j:=j) (by simpa using h);rw [show n+(k+1)=n+1+k by omega];exact this
def nK (js:List (Option Nat)) (R1:Nat->AS):Nat->AS:=fun k=>match js[k]? with
 | some (some j)=>R1 j
 | _=>NoA
def A5 {R1:Nat->AS} {k j:Nat} (h:js[k]?=some (some j)):nK js R1 k=R1 j:=by unfold nK; rw [h]
def A4 {R1:Nat->AS} {k:Nat} {a:Addr} (h:nK js R1 k a):∃ j,js[k]?=some (some j)/\R1 j a:=by
 unfold nK at h;cases q:js[k]? with
 | none=>rw [q] at h; exact h.elim
 | some o =>
  rw [q] at h;cases o with
  | none=>exact h.elim
  | some j=>exact ⟨j,rfl,h⟩
def EJ {cd:Nat} (hc:ia ds1 js dsi=true) (hd:dn d=cd) (hz:d≠0) (hl:lk=h9 js 0) (h:tF K (p && q) ds ds1 d (eLC q fi g c f js) σ H Q) :
  tLC (tFI K p ds ds1 fi) (tFG K lk dsi dsi g) (tFT K q dsi dsi c) (tF K q dsi dsi cd f) js σ H Q:=by
 obtain ⟨Ox,en,R,t,en',e,hf,k⟩:=h;unfold eLC at hf;obtain ⟨⟨ts,en1⟩,h1,hf⟩:=zaa.mp hf;obtain ⟨⟨fin,enf⟩,h2,hf⟩:=zab.mp hf;cases hf;obtain ⟨cl,c1,c2⟩:=kx hc;refine ⟨Ox,en,R,ts,en1,e,h1,fun J H1 R1 P1 wk D hD=>?_⟩;have E1:=P1.env0;generalize hRI:nK js R1=RI;have ri1:∀ k j:Nat,js[k]?=some (some j)->RI k=R1 j:=fun k j z=>by rw [<- hRI]; exact A5 z
 have ric:∀ (k:Nat) a,RI k a->∃ j,js[k]?=some (some j)/\R1 j a:=fun k a z=>by rw [<- hRI] at z; exact A4 z
 let OxI:AS:=fun a=>Ox a\/a=D\/∃ i,R1 i a/\∀ k:Nat,js[k]?≠some (some i);have nD:∀ a,Own R1 Ox a->a≠D:=fun a z z2=>by
  subst z2;obtain ⟨o,q⟩:=E1.dom a z;rw [hD] at q;cases q
 have lI:(de js en1).length=js.length:=by unfold de; rw [zad]
 have lS:(dU js σ).length=js.length:=by unfold dU; rw [zad]
 have getE:∀ (k:Nat) t,(de js en1)[k]?=some (some t)->∃ j,js[k]?=some (some j)/\en1[j]?=some (some t):=fun k t z=>by
  unfold de at z;rw [zao] at z;obtain ⟨oj,h1,h2⟩:=zab.mp z;cases oj with
  | none=>cases h2
  | some j =>
   refine ⟨j,h1,?_⟩;have h2':(en1[j]?).join=some t:=h2;cases q:en1[j]? with
   | none=>rw [q] at h2'; cases h2'
   | some o=>rw [q] at h2'; exact congrArg some h2'
 have getS:∀ (k j:Nat) v,js[k]?=some (some j)->σ[j]?=some (some v)->(dU js σ)[k]?=some (some v):=fun k j v z1 z2=>by
  unfold dU;rw [zao,z1];show some ((σ[j]?).join)=_;rw [z2];rfl
 have u2:∀ a o,H1 a=some o->upd H1 D (.lst []) a=some o:=fun a o q=>(cb (o:=.lst []) hD).1 a o q;have EI:EnvOk K dsi OxI (upd H1 D (.lst [])) (dU js σ) (de js en1) RI:=by
  refine ⟨fun k t hk=>?_,fun k k' a z z'=>?_,fun k a z z2=>?_,fun a z=>?_,by rw [lI,lS],by rw [cl,lS]⟩
  ·obtain ⟨j,hj,ht⟩:=getE k t hk;obtain ⟨v,d,g1,g2,g3⟩:=E1.at_ j t ht;obtain ⟨d',q1,q2⟩:=c1 k j hj;rw [g2] at q2;cases q2;refine ⟨v,d,getS k j v hj g1,q1,?_⟩;rw [ri1 k j hj];refine Ow.mv (G:=R1 j) ⟨fun a o q _=>u2 a o q,fun a z=>?_⟩ t (fun _ z=>z) g3;rcases z with ⟨k',z⟩ | z | z | ⟨i,z,_⟩
   ·obtain ⟨j',_,z⟩:=ric k' a z;exact .inl (.inl ⟨j',z⟩)
   ·exact .inl (.inr z)
   ·exact .inr (z ▸ hD)
   ·exact .inl (.inl ⟨i,z⟩)
  ·obtain ⟨j,hj,z⟩:=ric k a z;obtain ⟨j',hj',z'⟩:=ric k' a z'
   have:=E1.dj j j' a z z';subst this;exact c2 k k' j hj hj'
  ·obtain ⟨j,hj,z⟩:=ric k a z;rcases z2 with z2 | z2 | ⟨i,z2,n⟩
   ·exact E1.dx j a z z2
   ·exact nD a (.inl ⟨j,z⟩) z2
   ·have:=E1.dj j i a z z2;subst this;exact n k hj
  ·rcases z with ⟨k,z⟩ | z | z | ⟨i,z,_⟩
   ·obtain ⟨j,hj,z⟩:=ric k a z;obtain ⟨o,q⟩:=E1.dom a (.inl ⟨j,z⟩);exact ⟨o,u2 a o q⟩
   ·obtain ⟨o,q⟩:=E1.dom a (.inr z);exact ⟨o,u2 a o q⟩
   ·subst z;exact ⟨_,a8⟩
   ·obtain ⟨o,q⟩:=E1.dom a (.inl ⟨i,z⟩);exact ⟨o,u2 a o q⟩
 refine ⟨fun i n τ H'=>∃ eni RI' acc vs Fa,n=ts.length - i/\i<=ts.length/\PostS K lk dsi OxI (dU js σ) H1 RI τ eni H' RI' Fa/\H' D=some (.lst vs)/\Ows K (Own RI' (U Fa OxI)) H' acc cd vs Fa/\lcF g c f (ts.drop i) acc eni=some (fin,enf) /\
   (q=true->(∀ k j:Nat,js[k]?=some (some j)->RI' k=RI k)/\(∀ a o,H1 a=some o->H' a=some o)),
  ⟨_,de js en1,RI,[],[],NoA,rfl,Nat.zero_le _,⟨by rw [eJ]; exact EI,fun _ z=>z.elim,fun a o q _=>u2 a o q,fun a z=>z.elim (fun z=>z.elim) .inl,fun a o q=>⟨o,u2 a o q⟩,fun _ _=>rfl⟩,a8,rfl,h2,fun _=>⟨fun _ _ _=>rfl,u2⟩⟩,?_⟩
 rintro i n τ H2 ⟨eni,RI2,acc,vs,Fa,rfl,hi,P2,hDl,oacc,hr,pu⟩;have ce:∀ a,Own RI2 (U Fa OxI) a->Own R1 Ox a\/H1 a=none:=fun a z=>by
  rcases z with z | z | z | z | ⟨i,z,_⟩
  ·rcases P2.own a (.inr z) with ⟨k,z⟩ | z
   ·obtain ⟨j,_,z⟩:=ric k a z;exact .inl (.inl ⟨j,z⟩)
   ·exact .inr z
  ·rcases P2.own a (.inl z) with ⟨k,z⟩ | z
   ·obtain ⟨j,_,z⟩:=ric k a z;exact .inl (.inl ⟨j,z⟩)
   ·exact .inr z
  ·exact .inl (.inr z)
  ·exact .inr (z ▸ hD)
  ·exact .inl (.inl ⟨i,z⟩)
 obtain ⟨w1,w2⟩:=wk i H2 (Own RI2 (U Fa OxI)) (fun a o q z=>P2.keep a o q fun k zk=>by
  obtain ⟨j,_,zj⟩:=ric k a zk;exact z (.inl ⟨j,zj⟩)) ce fun a z=>P2.env.dom a z
 have DO:OxI D:=.inr (.inl rfl);by_cases hlt:i < ts.length
 ·obtain ⟨go,yl⟩:=w1 ts[i] (zak hlt);rw [List.drop_eq_getElem_cons hlt] at hr;obtain ⟨en3,h3,hr⟩:=zaa.mp hr;obtain ⟨⟨b,en4⟩,h4,hr⟩:=zaa.mp hr;refine .inr ⟨go,fun τ' H'=>∃ eni RI' acc vs Fa,PostS K lk dsi OxI (dU js σ) H1 RI τ' eni H' RI' Fa/\H' D=some (.lst vs)/\Ows K (Own RI' (U Fa OxI)) H' acc cd vs Fa/\lcF g c f (ts.drop (i+1)) acc eni=some (fin,enf)/\(q=true->(∀ k j:Nat,js[k]?=some (some j)->RI' k=RI k)/\(∀ a o,H1 a=some o->H' a=some o)),
   fun τ' H' ⟨eni,RI',acc,vs,Fa,P',x1,x2,x3,x4⟩=>⟨_,by omega,eni,RI',acc,vs,Fa,rfl,hlt,P',x1,x2,x3,x4⟩,fun x H3 y=>?_⟩
  obtain ⟨gr,ox⟩:=yl x H3 y;have P3:Post K true dsi (U Fa OxI) τ H2 eni RI2 eni H3 RI2 NoA:=Post.new P2.env gr fun _ z=>z.elim;have chain:∀ {τ5 en5 H5 RI5 F5},PostS K lk dsi (U Fa OxI) τ H2 RI2 τ5 en5 H5 RI5 F5->PostS K lk dsi OxI (dU js σ) H1 RI τ5 en5 H5 RI5 (U Fa F5):=fun {τ5 en5 H5 RI5 F5} P5=>by
   have n1:∀ a,H2 a=none->H1 a=none:=fun a z=>by
    cases q:H1 a with
    | none=>rfl
    | some o =>
     obtain ⟨o',q'⟩:=P2.dom a o q;rw [z] at q';cases q'
   refine ⟨lq ▸ P5.env,fun a z z2=>?_,fun a o q n=>?_,fun a z=>?_,fun a o q=>?_,fun j hj=>(P5.lk j hj).trans (P2.lk j hj)⟩
   ·rcases z with z | z
    ·exact P2.fx a z z2
    ·exact P5.fx a z (.inr z2)
   ·refine P5.keep a o (P2.keep a o q n) fun i z=>?_;rcases P2.own a (.inr ⟨i,z⟩) with ⟨j,z⟩ | z
    ·exact n j z
    ·rw [q] at z; cases z
   ·rcases z with (z | z) | z
    ·exact P2.own a (.inl z)
    ·rcases P5.own a (.inl z) with z | z
     ·exact P2.own a (.inr z)
     ·exact .inr (n1 a z)
    ·rcases P5.own a (.inr z) with z | z
     ·exact P2.own a (.inr z)
     ·exact .inr (n1 a z)
   ·obtain ⟨o',q'⟩:=P2.dom a o q;exact P5.dom a o' q'
  have carry:∀ {τ5 en5 H5 RI5 F5},PostS K lk dsi (U Fa OxI) τ H2 RI2 τ5 en5 H5 RI5 F5->Ows K (Own RI5 (U (U Fa F5) OxI)) H5 acc cd vs Fa:=fun {τ5 en5 H5 RI5 F5} P5=>by
   refine Ows.mv (G:=Fa) ⟨fun a o q z=>P5.keep a o q fun i zi=>?_,fun a z=>?_⟩ acc (fun _ z=>z) oacc
   ·rcases z with z | z
    ·exact z (.inl ⟨i,zi⟩)
    ·exact P2.env.dx i a zi (.inl z)
   ·rcases z with z | (z | z) | z
    ·exact (P5.own a (.inr z)).imp .inl id
    ·exact .inl (.inr (.inl z))
    ·exact (P5.own a (.inl z)).imp .inl id
    ·exact .inl (.inr (.inr z))
  have UFN:U Fa NoA=Fa:=fV fun a=>⟨fun z=>z.elim id fun z=>z.elim,.inl⟩;refine ⟨U Fa OxI,eni,RI2,ts[i],en3,P3.env0,ox,h3,fun τ4 R4 P4 r4=>?_⟩;have P4':=(P3.s (lk:=lk)).after P4;refine ⟨U Fa OxI,en3,R4,b,en4,P4.env0,h4,fun H5 R5 P5=>?_⟩;have P5':=P4'.after (P5.s (lk:=lk));have pu5:q=true->(∀ k j:Nat,js[k]?=some (some j)->R5 k=RI k)/\(∀ a o,H1 a=some o->H5 a=some o):=fun hq=>by
   obtain ⟨_,b2,b3⟩:=P5.pure hq;obtain ⟨e1,e2⟩:=pu hq;refine ⟨fun k j z=>?_,fun a o qq=>b3 a o (gr a o (e2 a o qq))⟩;rw [b2,r4 k (by rw [hl]; have:=iE (n:=0) z; rw [Nat.zero_add] at this; exact this)];exact e1 k j z
  cases b with
  | false =>
   dsimp only
   rw [if_neg Bool.false_ne_true];have c5:=chain P5';have o5:=carry P5';rw [UFN] at c5 o5;exact ⟨en4,R5,acc,vs,Fa,c5,P5'.keep D _ hDl fun k z=>P2.env.dx k D z (.inr DO),o5,hr,pu5⟩
  | true =>
   dsimp only
   rw [if_pos rfl];obtain ⟨⟨t6,en6⟩,h6,hr⟩:=zaa.mp (show ((f en4).bind fun q=>if acc.length < sizeLine then lcF g c f (ts.drop (i+1)) (acc++[q.1]) q.2 else none)=some (fin,enf) from hr);refine ⟨U Fa OxI,en4,R5,t6,en6,P5.env0,h6,fun v H6 R6 F6 P6 o6=>?_⟩;have P6':=P5'.after (P6.s (lk:=lk));by_cases hlen:acc.length < sizeLine
   case neg=>rw [if_neg hlen] at hr; cases hr
   rw [if_pos hlen] at hr;have hD6:=P6'.keep D _ hDl fun k z=>P2.env.dx k D z (.inr DO);refine ⟨vs,hD6,by rw [oacc.len]; exact hlen,en6,R6,acc++[t6],vs++[v],U Fa F6,?_,a8,?_,hr,?_⟩
   ·have c6:=chain P6';have keepD:∀ a o,H6 a=some o->a≠D->upd H6 D (.lst (vs++[v])) a=some o:=fun a o q n=>by rw [bg n]; exact q
    refine ⟨⟨fun k t hk=>?_,c6.env.dj,c6.env.dx,fun a z=>?_,c6.env.l1,c6.env.l2⟩,c6.fx,fun a o q n=>?_,c6.own,fun a o q=>?_,c6.lk⟩
    ·obtain ⟨v',d',g1,g2,g3⟩:=c6.env.at_ k t hk;refine ⟨v',d',g1,g2,Ow.mv (G:=R6 k) ⟨fun a o q z=>keepD a o q fun zD=>?_,fun a z=>.inl z⟩ t (fun _ z=>z) g3⟩;subst zD;rcases z with z | z
     ·exact z (.inr (.inr DO))
     ·exact c6.env.dx k a z (.inr DO)
    ·by_cases ha:a=D
     ·subst ha; exact ⟨_,a8⟩
     ·obtain ⟨o,q⟩:=c6.env.dom a z;exact ⟨o,keepD a o q ha⟩
    ·refine keepD a o (c6.keep a o q n) fun zD=>?_;subst zD;rw [hD] at q;cases q
    ·obtain ⟨o',q'⟩:=c6.dom a o q;by_cases ha:a=D
     ·subst ha; exact ⟨_,a8⟩
     ·exact ⟨o',keepD a o' q' ha⟩
   ·have o1:=carry P6';have o2:Ow K (Own R6 (U (U Fa F6) OxI)) H6 t6 cd v F6:=lq ▸ o6
    have:=Ows.snoc o1 o2 fun b z1 z2=>P6.fx b z2 (.inl z1);refine Ows.mv (G:=U Fa F6) ⟨fun a o q z=>?_,fun a z=>.inl z⟩ _ (fun _ z=>z) this;rw [bg]
    ·exact q
    ·intro zD;subst zD;rcases z with z | z | z
     ·exact z (.inr (.inr DO))
     ·exact P2.fx a z DO
     ·exact P6.fx a z (.inr DO)
   ·intro hq;obtain ⟨_,b2,b3⟩:=P6.pure hq;obtain ⟨e1,e2⟩:=pu5 hq;refine ⟨fun k j z=>by rw [b2]; exact e1 k j z,fun a o qq=>?_⟩;rw [bg]
    ·exact b3 a o (e2 a o qq)
    ·intro zD;subst zD;rw [hD] at qq;cases qq
 ·have e2:i=ts.length:=by omega
  subst e2;rw [List.drop_length] at hr;obtain ⟨e3,e4⟩:acc=fin/\eni=enf:=by cases hr; exact ⟨rfl,rfl⟩
  subst e3 e4;refine .inl ⟨w2 rfl,?_⟩;have fD:∀ a,Fa a->a≠D:=fun a z z2=>by
   subst z2;exact P2.fx a z DO
  cases hq:q with
  | true =>
   obtain ⟨e1,e2⟩:=pu hq;subst hq;have fn:∀ a,Fa a->H1 a=none:=fun a z=>by
    rcases P2.own a (.inl z) with ⟨k,z2⟩ | z2
    ·obtain ⟨j,hj,z3⟩:=ric k a z2;rw [<- e1 k j hj] at z2;exact absurd (.inl z) (P2.env.dx k a z2)
    ·exact z2
   have nt:NewTo H1 H2 (fun a=>a=D\/Fa a):=⟨e2,fun a z=>by
    rcases z with z | z
    ·subst z;exact ⟨hD,_,hDl⟩
    ·exact ⟨fn a z,P2.env.dom a (.inr (.inl z))⟩⟩
   have PF:=P1.fin nt;rw [Bool.and_true] at k;refine k (.ref D) H2 R1 _ PF ⟨D,vs,rfl,.inr ⟨hz,hDl,.inl rfl,Fa,fun b z=>⟨.inr z,fD b z⟩,?_⟩⟩;rw [hd];refine Ows.grow (fun a z=>?_) _ (fun _ z=>z) oacc;rcases z with ⟨i,z⟩ | (z | z) | z
   ·by_cases hc2:∃ kk:Nat,js[kk]?=some (some i)
    ·obtain ⟨kk,hk⟩:=hc2;refine .inl ⟨kk,?_⟩;rw [e1 kk i hk,ri1 kk i hk];exact z
    ·exact .inr (.inr (.inr (.inr ⟨i,z,fun kk hk=>hc2 ⟨kk,hk⟩⟩)))
   ·exact .inr (.inr (z ▸ DO))
   ·exact .inr (.inl z)
   ·exact .inr (.inr (.inl z))
  | false =>
   subst hq;rw [Bool.and_false] at k
   classical
   let R3:Nat->AS:=fun i=>if hh:∃ kk:Nat,js[kk]?=some (some i) then RI2 hh.choose else R1 i
   have r31:∀ (i kk:Nat),js[kk]?=some (some i)->R3 i=RI2 kk:=fun i kk z=>by
    have hh:∃ kk:Nat,js[kk]?=some (some i):=⟨kk,z⟩
    have:hh.choose=kk:=c2 _ _ i hh.choose_spec z;show (if hh:∃ kk:Nat,js[kk]?=some (some i) then RI2 hh.choose else R1 i)=RI2 kk;rw [dif_pos hh,this]
   have r32:∀ i:Nat,(∀ kk:Nat,js[kk]?≠some (some i))->R3 i=R1 i:=fun i z=>by
    show (if hh:∃ kk:Nat,js[kk]?=some (some i) then RI2 hh.choose else R1 i)=R1 i;rw [dif_neg fun ⟨j,q⟩=>z j q]
   have r3c:∀ (i:Nat) a,R3 i a->(∃ kk:Nat,js[kk]?=some (some i)/\RI2 kk a)\/((∀ kk:Nat,js[kk]?≠some (some i))/\R1 i a):=fun i a z=>by
    by_cases hh:∃ kk:Nat,js[kk]?=some (some i)
    ·obtain ⟨kk,hk⟩:=hh;rw [r31 i kk hk] at z;exact .inl ⟨kk,hk,z⟩
    ·rw [r32 i fun j z=>hh ⟨j,z⟩] at z;exact .inr ⟨fun j z=>hh ⟨j,z⟩,z⟩
   have sub3:∀ a,Own R3 (U (fun a=>a=D\/Fa a) Ox) a->Own RI2 (U Fa OxI) a:=fun a z=>by
    rcases z with ⟨i,z⟩ | (z | z) | z
    ·rcases r3c i a z with ⟨j,_,z⟩ | ⟨n,z⟩
     ·exact .inl ⟨j,z⟩
     ·exact .inr (.inr (.inr (.inr ⟨i,z,n⟩)))
    ·exact .inr (.inr (z ▸ DO))
    ·exact .inr (.inl z)
    ·exact .inr (.inr (.inl z))
   have el:eni.length=js.length:=by rw [P2.env.l1,<- P2.env.l2]; exact cl
   have riO:∀ (kk:Nat) a,RI kk a->Own R1 Ox a:=fun kk a z=>by
    obtain ⟨j,_,z⟩:=ric kk a z;exact .inl ⟨j,z⟩
   have env3:EnvOk K ds1 (U (fun a=>a=D\/Fa a) Ox) H2 σ (wbB js eni en1) R3:=by
    refine ⟨fun i u hu=>?_,fun i i' a z z'=>?_,fun i a z z2=>?_,fun a z=>P2.env.dom a (sub3 a z),by rw [lC]; exact E1.l1,E1.l2⟩
    ·by_cases hh:∃ kk:Nat,js[kk]?=some (some i)
     ·obtain ⟨kk,hk⟩:=hh;obtain ⟨dd,q1,q2⟩:=c1 kk i hk;have hil:i < en1.length:=by rw [E1.l1,<- E1.l2]; exact (zah.mp q2).1
      rw [mW js eni en1 i kk hk (fun k' z=>c2 k' kk i z hk) el hil] at hu;obtain ⟨v,d',g1,g2,g3⟩:=P2.env.at_ kk u hu;rw [q1] at g2;cases g2;have hlk:=P2.lk kk (by rw [hl]; have:=iE (n:=0) hk; rw [Nat.zero_add] at this; exact this);rw [hlk] at g1;refine ⟨v,dd,?_,q2,?_⟩
      ·unfold dU at g1;rw [zao,hk] at g1;have g1':(σ[i]?).join=some v:=zat g1;cases q3:σ[i]? with
       | none=>rw [q3] at g1'; cases g1'
       | some o=>rw [q3] at g1'; exact congrArg some g1'
      ·rw [r31 i kk hk];exact Ow.grow sub3 u (fun _ z=>z) g3
     ·rw [jI js eni en1 i fun j z=>hh ⟨j,z⟩] at hu;have ns:∀ j:Nat,js[j]?≠some (some i):=fun j z=>hh ⟨j,z⟩;obtain ⟨v,d',g1,g2,g3⟩:=E1.at_ i u hu;refine ⟨v,d',g1,g2,?_⟩;rw [r32 i ns];refine Ow.mv (G:=R1 i) ⟨fun a o q z=>P2.keep a o q fun j zj=>?_,fun a z=>ce a (sub3 a z)⟩ u (fun _ z=>z) g3;obtain ⟨j',hj',zj⟩:=ric j a zj;rcases z with z | z
      ·exact z (.inl ⟨j',zj⟩)
      ·have:=E1.dj i j' a z zj;subst this;exact ns j hj'
    ·rcases r3c i a z with ⟨j,q,z⟩ | ⟨n,z⟩ <;> rcases r3c i' a z' with ⟨j',q',z'⟩ | ⟨n',z'⟩
     ·have:=P2.env.dj j j' a z z';subst this;rw [q] at q';cases q';rfl
     ·exact absurd (.inr (.inr (.inr ⟨i',z',n'⟩))) (P2.env.dx j a z)
     ·exact absurd (.inr (.inr (.inr ⟨i,z,n⟩))) (P2.env.dx j' a z')
     ·exact E1.dj i i' a z z'
    ·rcases r3c i a z with ⟨j,q,z⟩ | ⟨n,z⟩
     ·refine P2.env.dx j a z ?_;rcases z2 with (z2 | z2) | z2
      ·exact .inr (z2 ▸ DO)
      ·exact .inl z2
      ·exact .inr (.inl z2)
     ·rcases z2 with (z2 | z2) | z2
      ·exact nD a (.inl ⟨i,z⟩) z2
      ·exact P2.fx a z2 (.inr (.inr ⟨i,z,n⟩))
      ·exact E1.dx i a z z2
   have n1:∀ a,H1 a=none->H a=none:=fun a z=>by
    cases q:H a with
    | none=>rfl
    | some o =>
     obtain ⟨o',q'⟩:=P1.dom a o q;rw [z] at q';cases q'
   refine k (.ref D) H2 R3 (fun a=>a=D\/Fa a) ⟨env3,fun a z z2=>?_,fun a o q n=>?_,fun a z=>?_,fun a o q=>?_,fun z=>nomatch z⟩ ⟨D,vs,rfl,.inr ⟨hz,hDl,.inl rfl,Fa,fun b z=>⟨.inr z,fD b z⟩,?_⟩⟩
   ·rcases z with z | z
    ·exact nD a (.inr z2) z
    ·exact P2.fx a z (.inl z2)
   ·refine P2.keep a o (P1.keep a o q n) fun kk z=>?_;obtain ⟨j,_,z⟩:=ric kk a z;rcases P1.own a (.inr ⟨j,z⟩) with ⟨i',z⟩ | z
    ·exact n i' z
    ·rw [q] at z; cases z
   ·have h3:(∃ i,R1 i a)\/H1 a=none:=by
     have h4:(Fa a\/∃ kk,RI2 kk a)->(∃ i,R1 i a)\/H1 a=none:=fun z=>by
      rcases P2.own a z with ⟨kk,z⟩ | z
      ·obtain ⟨j,_,z⟩:=ric kk a z;exact .inl ⟨j,z⟩
      ·exact .inr z
     rcases z with (z | z) | ⟨i,z⟩
     ·exact .inr (z ▸ hD)
     ·exact h4 (.inl z)
     ·rcases r3c i a z with ⟨j,_,z⟩ | ⟨n,z⟩
      ·exact h4 (.inr ⟨j,z⟩)
      ·exact .inl ⟨i,z⟩
    rcases h3 with h3 | h3
    ·exact P1.own a (.inr h3)
    ·exact .inr (n1 a h3)
   ·obtain ⟨o',q'⟩:=P1.dom a o q;exact P2.dom a o' q'
   ·rw [hd];exact Ows.grow sub3 _ (fun _ z=>z) oacc
end
def msk:List Nat->En->En
 | d :: ds,o :: en=>(if d=0 then none else o) :: msk ds en
 | _,_=>[]
def fnF (n:Nat) (dps:List Nat) (b:MS):List PyData->Option (PyData × En):=fun ts=>(b (ts.map some++List.replicate n none)).bind fun fl=>match fl with
 | .rt t en=>some (t,msk dps en)
 | .nx en=>some (.none,msk dps en)
 | .ct _=>none
def nq (dps:List Nat):List Nat:=(List.range dps.length).filter fun j=>dps[j]? != some 0
section
variable {K:PySem.W.Frag} {p p1 p2 q:Bool} {J:Jd} {lk:List Nat} {ds ds0 ds1 ds2 ds' dps:List Nat} {Ox Ox' O O':AS} {H H' H1:Hp} {σ σ':St} {en en' en1 en2:En} {R R' R1:Nat->AS} {d d' d1 d2 dr:Nat} {t t1 t2:PyData} {Q:VK} {f f1 f2:ME} {i:Nat} {v:V} {D:Ends}
def oz:∀ {dps:List Nat} {en:En} {j:Nat} {u:PyData},(msk dps en)[j]?=some (some u)->∃ d,dps[j]?=some d/\d≠0/\en[j]?=some (some u)
 | [],en,j,u,h=>by unfold msk at h; simp at h
 | d :: ds,[],j,u,h=>by unfold msk at h; simp at h
 | d :: ds,o :: en,j,u,h=>by
  unfold msk at h;cases j with
  | zero =>
   by_cases hd:d=0
   ·simp [hd] at h
   ·refine ⟨d,rfl,hd,?_⟩;simpa [hd] using h
  | succ j =>
   have:=oz (dps:=ds) (en:=en) (j:=j) (u:=u) (by simpa using h);simpa using this
def ou:∀ {dps:List Nat} {en:En},dps.length<=en.length->(msk dps en).length=dps.length
 | [],en,_=>by unfold msk; rfl
 | d :: ds,[],h=>by simp at h
 | d :: ds,o :: en,h=>by
  unfold msk;rw [zac,zac,ou (by simpa using h)]
def AI {N:List Str} {vs:List V} {E:XK} {n:Nat} {b:MS} (hn:N.length - dps.length=n) (h:spF K dps dr (fnF n dps b) vs H Q E) :
  tFS K ⟨nq dps,dps++List.replicate n 0,dr,[]⟩ (dps++List.replicate n 0) (dps++List.replicate n 0) b { nx:=fun _ H'=>Q .non H',rt:=Q } (du N vs) H:=by
 obtain ⟨Ox,ts,R,r,outs,e,hf,k⟩:=h;have lv:dps.length=vs.length:=by have:=e.l2; rw [zad] at this; exact this
 have lt:ts.length=vs.length:=by have:=e.l1; rw [zad,zad] at this; exact this
 have hs:du N vs=vs.map some++List.replicate n none:=by unfold du; rw [<- lv,hn]
 unfold fnF at hf;obtain ⟨fl,h1,hf⟩:=zaa.mp hf;have get0:∀ {α:Type} (xs:List α) (i:Nat) (u:α),(xs.map some++List.replicate n none)[i]?=some (some u)->(xs.map some)[i]?=some (some u)/\i < xs.length:=fun xs i u z=>by
  by_cases hi:i < xs.length
  ·rw [zaS (by rw [zad]; exact hi)] at z;exact ⟨z,hi⟩
  ·rw [List.getElem?_append_right (by rw [zad]; omega),List.getElem?_replicate] at z;split at z
   ·cases z
   ·cases z
 have e0:EnvOk K (dps++List.replicate n 0) Ox H (du N vs) (ts.map some++List.replicate n none) R:=by
  rw [hs];refine ⟨fun i u hu=>?_,e.dj,e.dx,e.dom,by simp [lt],by simp [lv]⟩;obtain ⟨hu',hi⟩:=get0 ts i u hu;obtain ⟨v,d,g1,g2,g3⟩:=e.at_ i u hu';refine ⟨v,d,?_,?_,g3⟩
  ·rw [zaS (by rw [zad]; omega)]; exact g1
  ·rw [zaS (by omega)]; exact g2
 have back:∀ {σ' en' H' R' F},PostS K (nq dps) (dps++List.replicate n 0) Ox (du N vs) H R σ' en' H' R' F->Post K false dps Ox (vs.map some) H (ts.map some) R (msk dps en') H' R' F:=fun {σ' en' H' R' F} P=>by
  have l1:=P.env.l1;have l2:=P.env.l2;rw [zae,List.length_replicate] at l2;refine ⟨⟨fun j u hu=>?_,P.env.dj,P.env.dx,P.env.dom,by rw [ou (by omega),zad]; exact lv,by rw [zad]; exact lv⟩,P.fx,P.keep,P.own,P.dom,fun z=>nomatch z⟩;obtain ⟨d,a1,a2,a3⟩:=oz hu;obtain ⟨v,d',g1,g2,g3⟩:=P.env.at_ j u a3;have hj:j < dps.length:=(zah.mp a1).1;have hlk:j∈nq dps:=by
   unfold nq;rw [List.mem_filter,List.mem_range];refine ⟨hj,?_⟩;rw [a1];simpa using a2
  rw [P.lk j hlk,hs,zaS (by rw [zad]; omega)] at g1;rw [zaS hj] at g2;exact ⟨v,d',g1,g2,g3⟩
 refine ⟨Ox,_,R,fl,e0,h1,?_⟩;cases fl with
 | nx en2 =>
  cases hf;exact fun σ2 H2 R2 P2=>k .non H2 R2 NoA (back P2) rfl
 | ct en2=>cases hf
 | rt t en2 =>
  cases hf;exact fun v σ2 H2 R2 F P2 o=>k v H2 R2 F (back P2) o
def Post.slot {F G F':AS} {l:Addr} {o2:HO} (P:Post K p ds1 Ox σ H en R en1 H1 R1 F) (hl:R1 i l) (hi:i < en1.length) (hv:σ[i]?=some (some v)) (hd:ds1[i]?=some d)
  (hg:∀ a,G a->R1 i a\/F a) (hf:∀ a,F' a->R1 i a\/F a) (hx:∀ a,G a->¬ F' a)
  (ho:Ow K (Own (fun j=>if j=i then G else R1 j) (U F' Ox)) (upd H1 l o2) t d v G) :
  Post K false ds1 Ox σ H en R (en1.set i (some t)) (upd H1 l o2) (fun j=>if j=i then G else R1 j) F':=by
 have rc:∀ (j:Nat) a,(if j=i then G else R1 j) a->R1 j a\/(j=i/\F a):=fun j a z=>by
  by_cases hj:j=i
  ·rw [if_pos hj] at z;rcases hg a z with z | z
   ·exact .inl (hj ▸ z)
   ·exact .inr ⟨hj,z⟩
  ·rw [if_neg hj] at z; exact .inl z
 have sub:∀ a,Own (fun j=>if j=i then G else R1 j) (U F' Ox) a->Own R1 (U F Ox) a:=fun a z=>by
  rcases z with ⟨j,z⟩ | z | z
  ·rcases rc j a z with z | ⟨_,z⟩
   ·exact .inl ⟨j,z⟩
   ·exact .inr (.inl z)
  ·rcases hf a z with z | z
   ·exact .inl ⟨i,z⟩
   ·exact .inr (.inl z)
  ·exact .inr (.inr z)
 have dom2:∀ a o,H1 a=some o->∃ o',upd H1 l o2 a=some o':=fun a o q=>by
  by_cases ha:a=l
  ·subst ha; exact ⟨_,a8⟩
  ·exact ⟨o,by rw [bg ha]; exact q⟩
 have nl:∀ a o,H1 a=some o->a≠l->upd H1 l o2 a=some o:=fun a o q n=>by rw [bg n]; exact q
 refine ⟨⟨fun j u hu=>?_,fun j j' a z z'=>?_,fun j a z z2=>?_,fun a z=>?_,by rw [zaV]; exact P.env.l1,P.env.l2⟩,fun a z z2=>?_,fun a o q n=>?_,fun a z=>?_,fun a o q=>?_,fun z=>nomatch z⟩
 ·by_cases hj:j=i
  ·subst hj;rw [zaP hi] at hu;cases hu;refine ⟨v,d,hv,hd,?_⟩;rw [if_pos rfl];exact ho
  ·rw [zaO (Ne.symm hj)] at hu;obtain ⟨v',d',g1,g2,g3⟩:=P.env.at_ j u hu;refine ⟨v',d',g1,g2,?_⟩;rw [if_neg hj];refine Ow.mv (G:=R1 j) ⟨fun a o q z=>nl a o q fun za=>?_,fun a z=>.inl (sub a z)⟩ u (fun _ z=>z) g3;subst za;rcases z with z | z
   ·exact z (.inl ⟨i,hl⟩)
   ·exact hj (P.env.dj j i a z hl)
 ·have z0:=z;have z0':=z';by_cases hj:j=i <;> by_cases hj':j'=i
  ·rw [hj,hj']
  ·rw [if_pos hj] at z0; rw [if_neg hj'] at z0';rcases hg a z0 with z1 | z1
   ·exact absurd (P.env.dj i j' a z1 z0') (fun e=>hj' e.symm)
   ·exact absurd (.inl z1) (P.env.dx j' a z0')
  ·rw [if_neg hj] at z0; rw [if_pos hj'] at z0';rcases hg a z0' with z1 | z1
   ·exact absurd (P.env.dj j i a z0 z1) hj
   ·exact absurd (.inl z1) (P.env.dx j a z0)
  ·rw [if_neg hj] at z0; rw [if_neg hj'] at z0';exact P.env.dj j j' a z0 z0'
 ·have z0:=z;by_cases hj:j=i
  ·rw [if_pos hj] at z0;rcases z2 with z2 | z2
   ·exact hx a z0 z2
   ·rcases hg a z0 with z1 | z1
    ·exact P.env.dx i a z1 (.inr z2)
    ·exact P.fx a z1 z2
  ·rw [if_neg hj] at z0;rcases z2 with z2 | z2
   ·rcases hf a z2 with z1 | z1
    ·exact hj (P.env.dj j i a z0 z1)
    ·exact P.env.dx j a z0 (.inl z1)
   ·exact P.env.dx j a z0 (.inr z2)
 ·obtain ⟨o,q⟩:=P.env.dom a (sub a z);exact dom2 a o q
 ·rcases hf a z with z1 | z1
  ·exact P.env.dx i a z1 (.inr z2)
  ·exact P.fx a z1 z2
 ·refine nl a o (P.keep a o q n) fun za=>?_;subst za;rcases P.own a (.inr ⟨i,hl⟩) with ⟨j,z⟩ | z
  ·exact n j z
  ·rw [q] at z; cases z
 ·have:F a\/∃ j,R1 j a:=by
   rcases z with z | ⟨j,z⟩
   ·rcases hf a z with z | z
    ·exact .inr ⟨i,z⟩
    ·exact .inl z
   ·rcases rc j a z with z | ⟨_,z⟩
    ·exact .inr ⟨j,z⟩
    ·exact .inl z
  exact P.own a this
 ·obtain ⟨o',q'⟩:=P.dom a o q;exact dom2 a o' q'
def nQ {G F' F:AS} (hg:∀ a,G a->R1 i a\/F a) (hf:∀ a,F' a->R1 i a\/F a):∀ a,Own (fun j=>if j=i then G else R1 j) (U F' Ox) a->Own R1 (U F Ox) a:=fun a z=>by
 rcases z with ⟨j,z⟩ | z | z
 ·by_cases hj:j=i
  ·rw [if_pos hj] at z;rcases hg a z with z | z
   ·exact .inl ⟨i,z⟩
   ·exact .inr (.inl z)
  ·rw [if_neg hj] at z; exact .inl ⟨j,z⟩
 ·rcases hf a z with z | z
  ·exact .inl ⟨i,z⟩
  ·exact .inr (.inl z)
 ·exact .inr (.inr z)
def ci {α:Type} {en:List (Option α)} {i:Nat} {t:α} (h:(en[i]?).join=some t):en[i]?=some (some t):=by
 cases q:en[i]? with
 | none=>rw [q] at h; cases h
 | some o=>rw [q] at h; exact congrArg some h
def Ow.sqL {ts:List PyData} {F:AS} (h:Ow K O H (.list ts) d v F):∃ a vs,v=.ref a/\SqL K H a vs:=by
 obtain ⟨a,vs,e,⟨_,h1,_⟩ | ⟨_,h1,_⟩⟩:=h
 ·exact ⟨a,vs,e,h1.sq⟩
 ·exact ⟨a,vs,e,SqL.of h1⟩
def Ow.ownL {ts:List PyData} {F:AS} (hd:d≠0) (h:Ow K O H (.list ts) d v F):∃ a vs,v=.ref a/\H a=some (.lst vs)/\F a/\∃ F':AS,(∀ b,F' b->F b/\b≠a)/\Ows K O H ts (dn d) vs F':=by
 obtain ⟨a,vs,e,⟨h0,_⟩ | ⟨_,h1,h2,h3⟩⟩:=h
 ·exact absurd h0 hd
 ·exact ⟨a,vs,e,h1,h2,h3⟩
def Ows.past {ts:List PyData} {vs:List V} {F:AS} {l:Addr} {o:HO} (ho:∀ a,O' a->O a) (hl:O l) (hf:∀ b,F b->b≠l) (h:Ows K O H ts d vs F):Ows K O' (upd H l o) ts d vs F :=
 Ows.mv (G:=F) ⟨fun a u q z=>by
  rw [bg]
  ·exact q
  ·intro za;subst za;rcases z with z | z
   ·exact z hl
   ·exact hf a z rfl,fun a z=>.inl (ho a z)⟩ ts (fun _ z=>z) h
def Ow.past {F:AS} {l:Addr} {o:HO} (ho:∀ a,O' a->O a) (hl:O l) (hf:∀ b,F b->b≠l) (h:Ow K O H t d v F):Ow K O' (upd H l o) t d v F :=
 Ow.mv (G:=F) ⟨fun a u q z=>by
  rw [bg]
  ·exact q
  ·intro za;subst za;rcases z with z | z
   ·exact z hl
   ·exact hf a z rfl,fun a z=>.inl (ho a z)⟩ t (fun _ z=>z) h
def ku (i:Nat) (f:ME):ME:=fun en=>match (en[i]?).join with
 | some (.list _)=>(f en).bind fun r=>match (r.2[i]?).join with
  | some (.list ts)=>if ts.length < sizeLine then some (.none,r.2.set i (some (.list (ts++[r.1])))) else none
  | _=>none
 | _=>none
def FO {c:Nat} (hd:ds1[i]?=some d) (hz:d≠0) (hc:dn d=c) (h:tF K false ds ds1 3 (ku i f) σ H Q):tBM K "list" oo (i9 i) (kG (tF K p ds ds1 c f) oU) σ H Q:=by
 obtain ⟨Ox,en,R,t,en',e,hf,k⟩:=h;unfold ku at hf;split at hf
 case h_2=>cases hf
 next ts0 h0 =>
 obtain ⟨⟨t1,en1⟩,h1,hf⟩:=zaa.mp hf
 dsimp only at hf
 split at hf
 case h_2=>cases hf
 next ts h2 =>
 by_cases hlen:ts.length < sizeLine
 case neg=>rw [if_neg hlen] at hf; cases hf
 rw [if_pos hlen] at hf;cases hf;obtain ⟨v,d0,a1,_,a3⟩:=e.at_ i _ (ci h0);obtain ⟨l0,vs0,e0,sq⟩:=a3.sqL;refine ⟨v,a1,?_,Ox,en,R,t1,en1,e,h1,fun x H1 R1 F P o=>?_⟩
 ·rw [e0]; exact .inl ⟨rfl,vs0,sq⟩
 obtain ⟨v',d',b1,b2,b3⟩:=P.env.at_ i _ (ci h2);rw [a1] at b1;cases b1;rw [hd] at b2;cases b2;obtain ⟨l,vs,el,hl,hr,F',hf',ow⟩:=b3.ownL hz;refine ⟨l,vs,x,el,rfl,hl,by rw [ow.len]; exact hlen,?_⟩;have hi:i < en1.length:=(zah.mp (ci h2)).1;have Fn:∀ a,F a->a≠l:=fun a z z2=>by
  subst z2;exact P.env.dx i a hr (.inl z)
 have sub:=nQ (i:=i) (R1:=R1) (Ox:=Ox) (G:=fun a=>R1 i a\/F a) (F':=NoA) (F:=F) (fun _ z=>z) (fun _ z=>z.elim);have Ol:Own R1 (U F Ox) l:=.inl ⟨i,hr⟩;refine k .non (upd H1 l (.lst (vs++[x]))) _ NoA (P.slot (G:=fun a=>R1 i a\/F a) hr hi a1 hd (fun _ z=>z) (fun _ z=>z.elim) (fun _ _ z=>z) ?_) rfl;refine ⟨l,vs++[x],el,.inr ⟨hz,a8,.inl hr,U F' F,fun b z=>?_,?_⟩⟩
 ·rcases z with z | z
  ·exact ⟨.inl (hf' b z).1,(hf' b z).2⟩
  ·exact ⟨.inr z,Fn b z⟩
 ·refine Ows.snoc (Ows.past sub Ol (fun b z=>(hf' b z).2) ow) ?_ fun b z1 z2=>P.env.dx i b (hf' b z1).1 (.inl z2);rw [hc];exact Ow.past sub Ol Fn o
def Ows.out:∀ {ts:List PyData} {vs:List V} {F:AS} {k:Nat} {t:PyData},Ows K O H ts d vs F->ts[k]?=some t ->
  ∃ v,∃ F1 F2:AS,vs[k]?=some v/\(∀ b,F1 b->F b)/\(∀ b,F2 b->F b)/\(∀ b,F1 b->¬ F2 b)/\Ow K O H t d v F1/\Ows K O H (ts.eraseIdx k) d (vs.eraseIdx k) F2
 | [],_,_,k,t,_,h=>by simp at h
 | u :: ts,_,F,k,t,h,hk=>by
  obtain ⟨v,r,F1,F2,e,s1,s2,s3,h4,h5⟩:=h;subst e;cases k with
  | zero =>
   have:u=t:=by simpa using hk
   subst this;exact ⟨v,F1,F2,rfl,s1,s2,s3,h4,h5⟩
  | succ k =>
   obtain ⟨w,G1,G2,g1,g2,g3,g4,g5,g6⟩:=Ows.out (k:=k) h5 (by simpa using hk);refine ⟨w,G1,U F1 G2,by simpa using g1,fun b z=>s2 b (g2 b z),fun b z=>z.elim (s1 b) fun z=>s2 b (g3 b z),fun b z z2=>?_,g5,v,r.eraseIdx k,F1,G2,rfl,fun b=>.inl,fun b=>.inr,fun b z1 z2=>s3 b z1 (g3 b z2),h4,g6⟩;rcases z2 with z2 | z2
   ·exact s3 b z2 (g2 b z)
   ·exact g4 b z z2
def eG (i:Nat) (f:ME):ME:=fun en=>match (en[i]?).join with
 | some (.list _)=>(f en).bind fun r=>match r.1,(r.2[i]?).join with
  | .int n,some (.list ts)=>if -(2 ^ 63)<=n/\n < 2 ^ 63 then (seqIndex? n ts.length).bind fun k=>(ts[k]?).map fun t=>(t,r.2.set i (some (.list (ts.eraseIdx k)))) else none
  | _,_=>none
 | _=>none
def AW {c:Nat} (hd:ds1[i]?=some d) (hz:d≠0) (hc:dn d=c) (h:tF K false ds ds1 c (eG i f) σ H Q):tBM K "list" qi (i9 i) (kG (tF K p ds ds1 d1 f) oU) σ H Q:=by
 obtain ⟨Ox,en,R,t,en',e,hf,k⟩:=h;unfold eG at hf;split at hf
 case h_2=>cases hf
 next ts0 h0 =>
 obtain ⟨⟨t1,en1⟩,h1,hf⟩:=zaa.mp hf
 dsimp only at hf
 split at hf
 case h_2=>cases hf
 next n ts h2 =>
 by_cases hn:-(2 ^ 63)<=n/\n < 2 ^ 63
 case neg=>rw [if_neg hn] at hf; cases hf
 rw [if_pos hn] at hf;obtain ⟨kk,h3,hf⟩:=zaa.mp hf;obtain ⟨t',h4,hf⟩:=zab.mp hf;cases hf;obtain ⟨v,d0,a1,_,a3⟩:=e.at_ i _ (ci h0);obtain ⟨l0,vs0,e0,sq⟩:=a3.sqL;refine ⟨v,a1,?_,Ox,en,R,.int n,en1,e,h1,fun x H1 R1 F P o=>?_⟩
 ·rw [e0]; exact .inl ⟨rfl,vs0,sq⟩
 obtain ⟨v',d',b1,b2,b3⟩:=P.env.at_ i _ (ci h2);rw [a1] at b1;cases b1;rw [hd] at b2;cases b2;obtain ⟨l,vs,el,hl,hr,F',hf',ow⟩:=b3.ownL hz;have len:=ow.len;obtain ⟨w,F1,F2,g1,g2,g3,g4,g5,g6⟩:=ow.out h4;have ex:x=.int n:=o;refine ⟨l,vs,n,kk,w,el,by rw [ex],hl,hn.1,hn.2,by rw [len]; exact h3,g1,?_⟩;have hi:i < en1.length:=(zah.mp (ci h2)).1;have gG:∀ a,(fun a=>R1 i a/\¬ F1 a) a->R1 i a\/F a:=fun a z=>.inl z.1;have gF:∀ a,F1 a->R1 i a\/F a:=fun a z=>.inl (hf' a (g2 a z)).1;have sub:∀ a,Own (fun j=>if j=i then (fun a=>R1 i a/\¬ F1 a) else R1 j) (U F1 Ox) a->Own R1 (U F Ox) a:=fun a z=>nQ gG gF a z;have Ol:Own R1 (U F Ox) l:=.inl ⟨i,hr⟩;have F1l:¬ F1 l:=fun z=>(hf' l (g2 l z)).2 rfl;rw [hc] at g5;refine k w (upd H1 l (.lst (vs.eraseIdx kk))) _ F1 (P.slot (G:=fun a=>R1 i a/\¬ F1 a) hr hi a1 hd gG gF (fun a z z2=>z.2 z2) ?_) (Ow.past sub Ol (fun b z=>(hf' b (g2 b z)).2) g5);exact ⟨l,vs.eraseIdx kk,el,.inr ⟨hz,a8,⟨hr,F1l⟩,F2,fun b z=>⟨⟨(hf' b (g3 b z)).1,fun z1=>g4 b z1 z⟩,(hf' b (g3 b z)).2⟩,Ows.past sub Ol (fun b z=>(hf' b (g3 b z)).2) g6⟩⟩
def Ows.setAt:∀ {ts:List PyData} {vs:List V} {F F2:AS} {k:Nat} {t:PyData} {v:V},Ows K O H ts d vs F->Ow K O H t d v F2->(∀ b,F b->¬ F2 b)->Ows K O H (ts.set k t) d (vs.set k v) (U F F2)
 | [],_,_,_,_,_,_,h,_,_=>by rw [show _=[] from h]; rfl
 | u :: ts,_,F,F2,k,t,v,h,h2,hd=>by
  obtain ⟨w,r,G1,G2,e,s1,s2,s3,h4,h5⟩:=h;subst e;cases k with
  | zero=>exact ⟨v,r,F2,G2,rfl,fun _ z=>.inr z,fun b z=>.inl (s2 b z),fun b z z2=>hd b (s2 b z2) z,h2,h5⟩
  | succ k =>
   refine ⟨w,r.set k v,G1,U G2 F2,rfl,fun b z=>.inl (s1 b z),fun b z=>z.imp (s2 b) id,fun b z z2=>?_,h4,Ows.setAt h5 h2 fun b z=>hd b (s2 b z)⟩;rcases z2 with z2 | z2
   ·exact s3 b z z2
   ·exact hd b (s1 b z) z2
def dy (i:Nat) (fk fe:ME):MS:=fun en=>(fe en).bind fun r=>match (r.2[i]?).join with
 | some _=>(fk r.2).bind fun q=>match q.1,(q.2[i]?).join with
  | .int n,some (.list ts)=>(ixN ts.length n).map fun k=>.nx (q.2.set i (some (.list (ts.set k r.1))))
  | _,_=>none
 | none=>none
def Az {c:Nat} {fk fe:ME} (hd:ds2[i]?=some d) (hz:d≠0) (hc:dn d=c) (h:tFS K J ds ds2 (dy i fk fe) D σ H) :
  oW (tF K p1 ds ds1 c fe) (D2 (i9 i) (tF K p2 ds1 ds2 d2 fk) zq) D σ H:=by
 obtain ⟨Ox,en,R,fl,e,hf,k⟩:=h;unfold dy at hf;obtain ⟨⟨t1,en1⟩,h1,hf⟩:=zaa.mp hf
 dsimp only at hf
 split at hf
 case h_2=>cases hf
 next tt h0 =>
 obtain ⟨⟨t2,en2⟩,h2,hf⟩:=zaa.mp hf
 dsimp only at hf
 split at hf
 case h_2=>cases hf
 next n ts h3 =>
 obtain ⟨kk,h4,hf⟩:=zab.mp hf;cases hf;refine ⟨Ox,en,R,t1,en1,e,h1,fun x H1 R1 F1 P1 o1=>?_⟩;obtain ⟨v0,d0,a1,_,_⟩:=P1.env.at_ i tt (ci h0);refine ⟨v0,a1,?_⟩;refine ⟨U F1 Ox,en1,R1,.int n,en2,P1.env,h2,fun y H2 R2 F2 P2 o2=>?_⟩;have P:=P1.trans P2;have o1':=Ow.over P1.env P2 o1;obtain ⟨v',d',b1,b2,b3⟩:=P.env.at_ i _ (ci h3);rw [a1] at b1;cases b1;rw [hd] at b2;cases b2;obtain ⟨l,vs,el,hl,hr,F',hf',ow⟩:=b3.ownL hz;refine ⟨l,vs,n,kk,el,o2,hl,by rw [ow.len]; exact h4,?_⟩;have hi:i < en2.length:=(zah.mp (ci h3)).1;have Fn:∀ a,F1 a->a≠l:=fun a z z2=>by
  subst z2;exact P.env.dx i a hr (.inl (.inl z))
 have gG:∀ a,(fun a=>R2 i a\/F1 a) a->R2 i a\/U F1 F2 a:=fun a z=>z.imp id .inl;have sub:=nQ (i:=i) (R1:=R2) (Ox:=Ox) (G:=fun a=>R2 i a\/F1 a) (F':=NoA) (F:=U F1 F2) gG (fun _ z=>z.elim);have Ol:Own R2 (U (U F1 F2) Ox) l:=.inl ⟨i,hr⟩;have PS:=P.slot (G:=fun a=>R2 i a\/F1 a) (F':=NoA) (o2:=.lst (vs.set kk x)) (t:=.list (ts.set kk t1)) hr hi a1 hd gG (fun _ z=>z.elim) (fun _ _ z=>z) ?_
 ·exact k σ _ _ PS.s
 refine ⟨l,vs.set kk x,el,.inr ⟨hz,a8,.inl hr,U F' F1,fun b z=>?_,?_⟩⟩
 ·rcases z with z | z
  ·exact ⟨.inl (hf' b z).1,(hf' b z).2⟩
  ·exact ⟨.inr z,Fn b z⟩
 ·refine Ows.setAt (Ows.past sub Ol (fun b z=>(hf' b z).2) ow) ?_ fun b z1 z2=>P.env.dx i b (hf' b z1).1 (.inl (.inl z2));rw [hc];exact Ow.past sub Ol Fn o1'
def Ows.get:∀ {ts:List PyData} {vs:List V} {F:AS} {k:Nat} {t:PyData},Ows K O H ts d vs F->ts[k]?=some t->∃ v,vs[k]?=some v/\Ow K O H t d v F
 | [],_,_,k,t,_,h=>by simp at h
 | u :: ts,_,F,k,t,h,hk=>by
  obtain ⟨v,r,F1,F2,e,s1,s2,s3,h4,h5⟩:=h;subst e;cases k with
  | zero =>
   have:u=t:=by simpa using hk
   subst this;exact ⟨v,rfl,Ow.grow (fun _ z=>z) u s1 h4⟩
  | succ k =>
   obtain ⟨w,g1,g2⟩:=Ows.get (k:=k) h5 (by simpa using hk);exact ⟨w,by simpa using g1,Ow.grow (fun _ z=>z) t s2 g2⟩
def Ows.atI {ts:List PyData} {vs:List V} {F:AS} {n:Int} {t:PyData} (h:Ows K O H ts d vs F) (ht:L2.atI ts n=some t):∃ v,L2.atI vs n=some v/\Ow K O H t d v F:=by
 unfold L2.atI at ht ⊢;rw [h.len];obtain ⟨k,h1,h2⟩:=zaa.mp ht;obtain ⟨v,g1,g2⟩:=h.get h2;exact ⟨v,by rw [h1]; exact g1,g2⟩
def bY (i:Nat) (f:ME):ME:=fun en=>(en[i]?).join.bind fun _=>(f en).bind fun r=>match r.1,(r.2[i]?).join with
 | .int n,some (.list ts)=>(atI ts n).map fun t=>(t,r.2)
 | _,_=>none
def FM (hd:ds1[i]?=some 1) (h:tF K p ds ds1 0 (bY i f) σ H Q):tOp (o7 K) (i9 i) (tF K p ds ds1 d1 f) σ H Q:=by
 obtain ⟨Ox,en,R,t,en',e,hf,k⟩:=h;unfold bY at hf;obtain ⟨t0,h0,hf⟩:=zaa.mp hf;obtain ⟨⟨t1,en1⟩,h1,hf⟩:=zaa.mp hf
 dsimp only at hf
 split at hf
 case h_2=>cases hf
 next n ts h2 =>
 obtain ⟨t',h3,hf⟩:=zab.mp hf;cases hf;obtain ⟨v,d0,a1,_,a3⟩:=e.at_ i _ (ci h0);refine ⟨v,a1,Ox,en,R,.int n,_,e,h1,fun x H1 R1 F P o=>?_⟩;obtain ⟨v',d',b1,b2,b3⟩:=P.env.at_ i _ (ci h2);rw [a1] at b1;cases b1;rw [hd] at b2;cases b2;obtain ⟨l,vs,el,hl,hr,F',hf',ow⟩:=b3.ownL (by decide);obtain ⟨w,g1,g2⟩:=ow.atI h3;refine ⟨l,vs,n,w,el,o,SqL.of hl,g1,k w H1 R1 NoA (P.less fun _ z=>z.elim) ?_⟩;exact Ow.any0 _ (Ow.grow (fun a z=>z.imp id fun z=>z.elim (fun z=>False.elim z) Or.inr) _ (fun _ z=>z) g2)
end
def PE.imp {X:Cx} {e:Expr} {t t':TE} (h:PE X e t) (hi:∀ σ H Q,t' σ H Q->t σ H Q):PE X e t':=fun pins s σ H Q I hw=>h pins s σ H Q I (hi _ _ _ hw)
def PT.imp {X:Cx} {e:Expr} {t t':TT} (h:PT X e t) (hi:∀ σ H Q,t' σ H Q->t σ H Q):PT X e t':=fun pins s σ H Q I hw=>h pins s σ H Q I (hi _ _ _ hw)
def PW.imp {X:Cx} {e:Expr} {t t':TT} (h:PW X e t) (hi:∀ σ H Q,t' σ H Q->t σ H Q):PW X e t':=fun wh pins s σ H Q I hw=>h wh pins s σ H Q I (hi _ _ _ hw)
def PA.imp {X:Cx} {e:List Expr} {t t':TA} (h:PA X e t) (hi:∀ σ H Q,t' σ H Q->t σ H Q):PA X e t':=fun pos pins s σ H Q I hw=>h pos pins s σ H Q I (hi _ _ _ hw)
def PS.imp {X:Cx} {e:Stmt} {t t':TS} (h:PS X e t) (hi:∀ D σ H,t' D σ H->t D σ H):PS X e t':=fun pins s σ H D I hw=>h pins s σ H D I (hi _ _ _ hw)
def PSs.imp {X:Cx} {e:List Stmt} {t t':TS} (h:PSs X e t) (hi:∀ D σ H,t' D σ H->t D σ H):PSs X e t':=fun pins s σ H D I hw=>h pins s σ H D I (hi _ _ _ hw)
def PG.imp {X:Cx} {e:Expr} {t t':TG} (h:PG X e t) (hi:∀ v σ H Q,t' v σ H Q->t v σ H Q):PG X e t':=fun pins s σ H v u Q I r hw=>h pins s σ H v u Q I r (hi _ _ _ _ hw)
def PI.imp {X:Cx} {tg e:Expr} {t t':TI} (h:PI X tg e t) (hi:∀ σ H R,t' σ H R->t σ H R):PI X tg e t':=fun pins s σ H R I hw=>h pins s σ H R I (hi _ _ _ hw)
def PTs.imp {X:Cx} {e:List Expr} {t t':TT} (h:PTs X e t) (hi:∀ σ H Q,t' σ H Q->t σ H Q):PTs X e t':=fun pins s σ H Q I hw=>h pins s σ H Q I (hi _ _ _ hw)
def aN:Expr->Bool
 | .Starred _ _=>false
 | _=>true
def bh {e:Expr} {es:List Expr} {env:Env} (h:aN e=true):starEach (e :: es) env=(false,eval e env) :: starEach es env:=by
 cases e <;> first | rfl | cases h
def gf {pos:Pos} {env:Env}:∀ {es:List Expr},es.all aN=true->(backTo pos (starEach es env)).any (·.1)=false
 | [],_=>rfl
 | e :: es,h=>by
  rw [List.all_cons,Bool.and_eq_true] at h;rw [bh h.1];show (false || (backTo pos (starEach es env)).any (·.1))=false;rw [gf h.2];rfl
section
variable {X:Cx} {K:PySem.W.Frag} {p p1 p2 q:Bool} {ds ds0 ds1 ds2 ds' dsi:List Nat} {d d' d1 d2:Nat} {a b c e:Expr} {es:List Expr} {f f1 f2:ME} {m c1 c2:MT} {fa:MA} {sh:Sh} {pos:Pos} {i:Nat} {x:Str}
def Em {x:Str} (hN:X.N[i]?=some x) (hv:Vis X.env.scope x) (h0:ds[i]?=some 0) (hd:(x == ("__debug__" : Str))=false) (hcd:(x == ("__classdict__" : Str))=false):PE X (.Name x pos) (tF K p ds ds 0 (af i)) :=
 (iq hN hv hd hcd).imp fun _ _ _ h=>FF h0 (iL (fun _=>rfl) h)
def EA {n:Int} {j}:PE X (.Constant (.int n) j pos) (tF K p ds ds 3 (eC (.int n))):=pe_int.imp fun _ _ _ h=>f_c (t:=.int n) (fun _ _ _ _=>rfl) (iL (fun _=>rfl) h)
def FE {n:Bool} {j}:PE X (.Constant (.bool n) j pos) (tF K p ds ds 3 (eC (.bool n))):=pe_bl.imp fun _ _ _ h=>f_c (t:=.bool n) (fun _ _ _ _=>rfl) (iL (fun _=>rfl) h)
def Ev {j}:PE X (.Constant .none j pos) (tF K p ds ds 3 (eC .none)):=pe_non.imp fun _ _ _ h=>f_c (t:=.none) (fun _ _ _ _=>rfl) (iL (fun _=>rfl) h)
def Er {n:Str} {j}:PE X (.Constant (.str n) j pos) (tF K p ds ds 3 (eC (.str n))):=pe_str.imp fun _ _ _ h=>f_c (t:=.str n) (fun _ _ _ _=>rfl) (iL (fun _=>rfl) h)
def sE {x:Str} {n:Int} {t:Tok} (hg:Gl X x) (hm:X.mg x=some (.int n t)) (hd:(x == ("__debug__" : Str))=false):PE X (.Name x pos) (tF K p ds ds 3 (eC (.int n))) :=
 (Ab (v:=.int n) hg hm ⟨t,rfl⟩ hd).imp fun _ _ _ h=>f_c (t:=.int n) (fun _ _ _ _=>rfl) (iL (fun _=>rfl) h)
def Ep (h:PE X e (tF K p ds ds' d f)) (hd:d'<=d):PE X e (tF K p ds ds' d' f):=h.imp fun _ _ _=>FH hd
def FC (h:PE X e (tF K p ds0 ds' d f)) (hd:leD ds0 ds=true):PE X e (tF K false ds ds' d f):=h.imp fun _ _ _=>Gh hd
def ED (h:PE X e (tF K true ds0 ds0 3 f)) (hd:leD ds0 ds=true):PE X e (tF K p ds ds 3 f):=h.imp fun _ _ _ h=>FN hd (iL (fun _=>rfl) h)
def Fz {op:Operator} {g:D->D->Option D} (ho:OpR X (binaryOp op) (rF2 K g d)) (ha:PE X a (tF K p ds ds1 d1 f1)) (hb:PE X b (tF K p ds1 ds2 d2 f2)):PE X (.BinOp a op b pos) (tF K p ds ds2 d (e2 g f1 f2)) :=
 (Fe ho ha hb).imp fun _ _ _ h=>mT (by rw [Bool.and_self]; exact h)
def Fx {op:UnaryOp} {g:D->Option D} (ho:UnR X (unaryOp op) (rF1 K g d)) (ha:PE X a (tF K p ds ds1 d1 f1)):PE X (.UnaryOp op a pos) (tF K p ds ds1 d (e1 g f1)) :=
 (Fc ho ha).imp fun _ _ _=>FI
def EC {op:CmpOp} {g:D->D->Option D} (ho:OpR X (compareOp op) (rF2 K g d)) (ha:PE X a (tF K p ds ds1 d1 f1)) (hb:PE X b (tF K p ds1 ds2 d2 f2)) (hm:behindInMarks op b=false):PE X (.Compare a [op] [b] pos) (tF K p ds ds2 d (e2 g f1 f2)) :=
 (Ac ho ha hb hm).imp fun _ _ _ h=>mT (by rw [Bool.and_self]; exact h)
def Av {op:CmpOp} {g:D->D->Option D} (ho:OpR X (compareOp op) (rF2 K g d)) (ha:PE X a (tF K p ds ds1 d1 f1)) (hb:PE X b (tF K p ds1 ds2 d2 f2)) (hm:behindInMarks op b=false):PT X (.Compare a [op] [b] pos) (tFT K p ds ds2 (tV (e2 g f1 f2))) :=
 (zV ho ha hb hm).imp fun σ H Q h=>by
  obtain ⟨Ox,en,R,t,en',e,hf,k⟩:=qI (d:=d) h;exact mT (by rw [Bool.and_self]; exact ⟨Ox,en,R,t,en',e,hf,k⟩)
def At (h:PE X e (tF K p ds ds' d f)) (he:∀ whole,isTrue e X.env whole=(do let v <- whole; standAt e.pos; holding [v] (truthy v))):PT X e (tFT K p ds ds' (tV f)):=(Dj h he).imp fun _ _ _=>qI
def Ap (ha:PT X a (tFT K p ds ds1 c1)):PW X (.BoolOp .And [a] pos) (tFT K p ds ds1 c1):=zT ha
def D3 (ha:PT X a (tFT K p ds ds1 c1)):PW X (.BoolOp .Or [a] pos) (tFT K p ds ds1 c1):=Dh ha
def D4 {rest:List Expr} (ha:PT X a (tFT K p ds ds1 c1)) (hb:PW X (.BoolOp .And (b :: rest) pos) (tFT K p ds1 ds1 c2)):PW X (.BoolOp .And (a :: b :: rest) pos) (tFT K p ds ds1 (dN c1 c2)):=(Di ha hb).imp fun _ _ _ h=>D7 (by rw [Bool.and_self]; exact h)
def Fp {rest:List Expr} (ha:PT X a (tFT K p ds ds1 c1)) (hb:PW X (.BoolOp .Or (b :: rest) pos) (tFT K p ds1 ds1 c2)):PW X (.BoolOp .Or (a :: b :: rest) pos) (tFT K p ds ds1 (bOr c1 c2)):=(E8 ha hb).imp fun _ _ _ h=>Fq (by rw [Bool.and_self]; exact h)
def Au (ha:PT X a (tFT K p ds ds1 c1)):PT X (.UnaryOp .Not a pos) (tFT K p ds ds1 (di c1)):=(Dk ha).imp fun _ _ _=>D5
def Es {op} (h:PE X a (tF K p ds ds1 d f)):PE X (.BoolOp op [a] pos) (tF K p ds ds1 d f):=Dt h
def EF {rest:List Expr} (ha:PE X a (tF K p ds ds1 d1 f1)) (hb:PE X (.BoolOp .And (b :: rest) pos) (tF K p ds1 ds1 d f2)):PE X (.BoolOp .And (a :: b :: rest) pos) (tF K p ds ds1 d (cG f1 f2)):=(Dw ha hb).imp fun _ _ _ h=>FP (by rw [Bool.and_self]; exact h)
def Fy {rest:List Expr} (ha:PE X a (tF K p ds ds1 d1 f1)) (hb:PE X (.BoolOp .Or (b :: rest) pos) (tF K p ds1 ds1 d f2)):PE X (.BoolOp .Or (a :: b :: rest) pos) (tF K p ds ds1 d (eOr f1 f2)):=(Fd ha hb).imp fun _ _ _ h=>Gg (by rw [Bool.and_self]; exact h)
def Eu (ha:PE X a (tF K p ds ds1 d1 f)):PE X (.UnaryOp .Not a pos) (tF K p ds ds1 3 (kr f)):=(Du ha).imp fun _ _ _=>FJ
def AU:PA X [] (tFA K p ds ds [] ag):=pa_nil.imp fun _ _ _ ⟨Ox,en,R,t,en',e,hf,k⟩=>EG ⟨Ox,en,R,t,en',e,hf,fun vs H' R' F P=>k vs H' R' F ⟨P.env,P.fx,P.keep,P.own,P.dom,fun _=>P.pure rfl⟩⟩
def sK (ha:PE X e (tF K p ds ds1 d f)) (hr:PA X es (tFA K p ds1 ds2 sh fa)) (hs:aN e=true):PA X (e :: es) (tFA K p ds ds2 (.inl d :: sh) (ac f fa)):=(eo ha hr (bh hs)).imp fun _ _ _ h=>AV (by rw [Bool.and_self]; exact h)
def sJ {x:Str} (hN:X.N[i]?=some x) (hv:Vis X.env.scope x) (hr:PA X es (tFA K p ds ds2 sh fa)) (hd:(x == ("__debug__" : Str))=false) (hcd:(x == ("__classdict__" : Str))=false) :
  PA X (.Name x pos :: es) (tFA K p ds ds2 (.inr i :: sh) (aO i fa)):=(eo (iq hN hv hd hcd) hr (bh rfl)).imp fun _ _ _=>AT
def Ew {c:Nat} (h:PA X es (tFA K p ds ds1 sh fa)) (hs:bT c sh=true) (hd:dn d=c) (hz:d≠0):PE X (.List es pos) (tF K p ds ds1 d (aT fa)):=(Dv h).imp fun _ _ _=>FK hs hd hz
def Eo {c:Nat} {x1} (h:PA X es (tFA K p ds ds1 sh fa)) (hs:bT c sh=true) (hd:dn d=c):PE X (.Tuple es x1 pos) (tF K p ds ds1 d (av fa)):=(Ds h).imp fun _ _ _=>FG hs hd
def sH {id:String} {x:Str} {px:Pos} {g:List D->Option D} (hc:CallR X (.builtin id) (rFn K g d)) (hg:Gl X x) (hm:X.mg x=none) (hv:bootBuiltins x=some (.builtin id)) (ha:PA X (e :: es) (tFA K p ds ds1 sh fa)) (hsh:bT 0 sh=true) (hn:x≠"__name__") (hdb:(x == ("__debug__" : Str))=false)
  (he:aN e=true) (hpl:es.all aN=true):PE X (.Call (.Name x px) (e :: es) [] pos) (tF K p ds ds1 d (eN g fa)) :=
 (kf hc hg hm hv ha hn hdb (bh he) (gf hpl)).imp fun _ _ _=>qV hsh
def qU {T:String} {x:Str} {px:Pos} {g:List D->Option D} (hc:CallR X (.type T) (rFn K g d)) (hg:Gl X x) (hm:X.mg x=none) (hv:bootBuiltins x=some (.type T)) (ha:PA X (e :: es) (tFA K p ds ds1 sh fa)) (hsh:bT 0 sh=true) (hn:x≠"__name__") (hdb:(x == ("__debug__" : Str))=false)
  (he:aN e=true) (hpl:es.all aN=true):PE X (.Call (.Name x px) (e :: es) [] pos) (tF K p ds ds1 d (eN g fa)) :=
 (l5 hc hg hm hv ha hn hdb (bh he) (gf hpl)).imp fun _ _ _=>qV hsh
def FD {k:Nat} {x:Str} {ps:List Str} {px:Pos} {dps:List Nat} {dr:Nat} {F:List D->Option (D × En)} (G:Kn X.prog X.w X.K X.mg X.base k x ps (spF K dps dr F)) (hr:Room k X.A) (hg:Gl X x) (ha:PA X (e :: es) (tFA K p ds ds1 sh fa)) (hns:gi sh=true) (hcd:dS ds1 sh dps=true) (hdb:(x == ("__debug__" : Str))=false)
  (he:aN e=true) (hpl:es.all aN=true) :
  PE X (.Call (.Name x px) (e :: es) [] pos) (tF K p ds ds1 dr (ar F fa)):=(zw G hr hg ha hdb (bh he) (gf hpl)).imp fun _ _ _ h=>EK hcd (by rw [hns,Bool.and_true]; exact h)
def EB {k:Nat} {x:Str} {ps:List Str} {px:Pos} {dps:List Nat} {dr:Nat} {F:List D->Option (D × En)} (G:Kn X.prog X.w X.K X.mg X.base k x ps (spF K dps dr F)) (hr:Room k X.A) (hg:Gl X x) (ha:PA X (e :: es) (tFA K false ds ds1 sh fa)) (hcd:dS ds1 sh dps=true) (hdb:(x == ("__debug__" : Str))=false)
  (he:aN e=true) (hpl:es.all aN=true) :
  PE X (.Call (.Name x px) (e :: es) [] pos) (tF K false ds ds1 dr (ar F fa)):=(zw G hr hg ha hdb (bh he) (gf hpl)).imp fun _ _ _ h=>EK hcd h
def FB {g:D->D->Option D} (ho:IxR X (rF2 K g d)) (ha:PE X a (tF K p ds ds1 d1 f1)) (hb:PE X b (tF K p ds1 ds2 d2 f2)) (hs:iy b):PE X (.Subscript a b pos) (tF K p ds ds2 d (e2 g f1 f2)) :=
 (zv ho ha hb hs).imp fun _ _ _ h=>mT (by rw [Bool.and_self]; exact h)
def Ey {x:Str} {px:Pos} (hK:X.K=K) (hN:X.N[i]?=some x) (hv:Vis X.env.scope x) (h1:ds1[i]?=some 1) (hb:PE X b (tF K p ds ds1 d1 f)) (hs:iy b) (hd:(x == ("__debug__" : Str))=false) (hcd:(x == ("__classdict__" : Str))=false) :
  PE X (.Subscript (.Name x px) b pos) (tF K p ds ds1 0 (bY i f)):=(zv (Gd hK) (iq hN hv hd hcd) hb hs).imp fun _ _ _=>FM h1
def EE {c:Nat} {x:Str} {px apos cpos:Pos} (hK:X.K=K) (hN:X.N[i]?=some x) (hv:Vis X.env.scope x) (h1:ds1[i]?=some d) (he:PE X e (tF K false ds ds1 c f)) (hz:d≠0) (hc:dn d=c)
  (hd:(x == ("__debug__" : Str))=false) (hcd:(x == ("__classdict__" : Str))=false)
  (hbase:attributeBase (.Name x px) "append" X.env (eval (.Name x px) X.env)=eval (.Name x px) X.env)
  (hfew:((backTo cpos (starEach [e] X.env)).all (fun x=>!x.1) && (backToKw cpos (keywordEach [] X.env)).all (fun x=>x.1.isSome) && decide (([e]:List Expr).length+([]:List Keyword).length+(if ([]:List Keyword).isEmpty then 0 else 1) < 30))=true)
  (hline:(apos.endLine == cpos.line)=true) (hs:starEach [e] X.env=[(false,eval e X.env)]) (hplain:(backTo cpos (starEach [] X.env)).any (·.1)=false) :
  PE X (.Call (.Attribute (.Name x px) "append" apos) [e] [] cpos) (tF K false ds ds1 3 (ku i f)):=by
 subst hK;exact (pc PySem.F.plainAttrs_list PySem.F.slot_list_append PySem.F.type_list_append l7 (iq hN hv hd hcd) (eo he pa_nil hs) hbase hfew hline hs hplain).imp fun _ _ _=>FO h1 hz hc
def sD {c:Nat} {x:Str} {px apos cpos:Pos} (hK:X.K=K) (hN:X.N[i]?=some x) (hv:Vis X.env.scope x) (h1:ds1[i]?=some d) (he:PE X e (tF K false ds ds1 d1 f)) (hz:d≠0) (hc:dn d=c)
  (hd:(x == ("__debug__" : Str))=false) (hcd:(x == ("__classdict__" : Str))=false)
  (hbase:attributeBase (.Name x px) "pop" X.env (eval (.Name x px) X.env)=eval (.Name x px) X.env)
  (hfew:((backTo cpos (starEach [e] X.env)).all (fun x=>!x.1) && (backToKw cpos (keywordEach [] X.env)).all (fun x=>x.1.isSome) && decide (([e]:List Expr).length+([]:List Keyword).length+(if ([]:List Keyword).isEmpty then 0 else 1) < 30))=true)
  (hline:(apos.endLine == cpos.line)=true) (hs:starEach [e] X.env=[(false,eval e X.env)]) (hplain:(backTo cpos (starEach [] X.env)).any (·.1)=false) :
  PE X (.Call (.Attribute (.Name x px) "pop" apos) [e] [] cpos) (tF K false ds ds1 c (eG i f)):=by
 subst hK;exact (pc PySem.F.plainAttrs_list PySem.F.slot_list_pop PySem.F.type_list_pop rX (iq hN hv hd hcd) (eo he pa_nil hs) hbase hfew hline hs hplain).imp fun _ _ _=>AW h1 hz hc
def cY:MT:=fun en=>some (true,en)
def Ar:PTs X [] (tFT K p ds ds cY):=pts_nil.imp fun σ H Q ⟨Ox,en,R,b,en',e,hf,k⟩=>by
 cases hf;exact k H R (Post.refl e)
def Aq (hc:PT X c (tFT K p ds ds1 c1)):PTs X [c] (tFT K p ds ds1 c1):=zU hc
def FA {elt tg iter:Expr} {ifs:List Expr} {scope:Scope} {ns:List Str} {js:List (Option Nat)} {fi:MI} {g:MG} {lk:List Nat} {cd:Nat} (B:BlkOkC X scope ns js) (hc:X.calm=true) (hi:PI X tg iter (tFI K p ds ds1 fi))
  (hg:∀ C cl s₀ H₀ fp,PG (a7 X scope ns C cl s₀ H₀ fp) tg (tFG K lk dsi dsi g)) (ht:∀ C cl s₀ H₀ fp,PTs (a7 X scope ns C cl s₀ H₀ fp) ifs (tFT K true dsi dsi c1)) (he:∀ C cl s₀ H₀ fp,PE (a7 X scope ns C cl s₀ H₀ fp) elt (tF K true dsi dsi cd f))
  (hcap:ia ds1 js dsi=true) (hd:dn d=cd) (hz:d≠0) (hlk:lk=h9 js 0)
  (hs:∀ x,foldedSetIterable iter X.env x=pure x):PE X (.ListComp elt [⟨tg,iter,ifs,0⟩] scope pos) (tF K p ds ds1 d (eLC true fi g c1 f js)) :=
 (qm B hc hi hg ht he hs).imp fun _ _ _ h=>EJ hcap hd hz hlk (by rw [Bool.and_true]; exact h)
def Ex {elt tg iter:Expr} {ifs:List Expr} {scope:Scope} {ns:List Str} {js:List (Option Nat)} {fi:MI} {g:MG} {lk:List Nat} {cd:Nat} (B:BlkOkC X scope ns js) (hc:X.calm=true) (hi:PI X tg iter (tFI K false ds ds1 fi))
  (hg:∀ C cl s₀ H₀ fp,PG (a7 X scope ns C cl s₀ H₀ fp) tg (tFG K lk dsi dsi g)) (ht:∀ C cl s₀ H₀ fp,PTs (a7 X scope ns C cl s₀ H₀ fp) ifs (tFT K false dsi dsi c1)) (he:∀ C cl s₀ H₀ fp,PE (a7 X scope ns C cl s₀ H₀ fp) elt (tF K false dsi dsi cd f))
  (hcap:ia ds1 js dsi=true) (hd:dn d=cd) (hz:d≠0) (hlk:lk=h9 js 0)
  (hs:∀ x,foldedSetIterable iter X.env x=pure x):PE X (.ListComp elt [⟨tg,iter,ifs,0⟩] scope pos) (tF K false ds ds1 d (eLC false fi g c1 f js)) :=
 (qm B hc hi hg ht he hs).imp fun _ _ _ h=>EJ hcap hd hz hlk h
end
def GI (f:ME) (g:MG):MS:=fun en=>(f en).bind fun r=>(g r.1 r.2).map .nx
section
variable {K:PySem.W.Frag} {p p1 p2 q:Bool} {J:Jd} {ds ds0 ds1 ds2 ds' dsi dps:List Nat} {d d' d1 d2 dr:Nat} {f f1 f2 fk fe:ME} {c1 c2:MT} {fa:MA} {sh:Sh} {i:Nat} {m m1 m2:MS} {g:MG} {lk:List Nat} {σ:St} {H:Hp} {Dn:Ends}
end
section
variable {X:Cx} {K:PySem.W.Frag} {p p1 p2 q:Bool} {J:Jd} {ds ds0 ds1 ds2 ds' dsi dps:List Nat} {d d' d1 d2 dr:Nat} {a b c e tg iter:Expr} {es:List Expr} {st:Stmt} {rest body bodyB:List Stmt} {f f1 f2 fk fe:ME} {c1 c2:MT} {fa:MA} {sh:Sh} {pos px:Pos} {i:Nat} {x:Str} {m m1 m2:MS} {g:MG} {gs:List D->En->Option En} {fi:MI} {lk:List Nat}
def Ay:PSs X [] (tFS K J ds ds aW):=pss_nil.imp fun _ _ _=>Ec
def sw (h1:PS X st (tFS K J ds ds1 m1)) (h2:PSs X rest (tFS K J ds1 ds2 m2)):PSs X (st :: rest) (tFS K J ds ds2 (ao m1 m2)):=(rO h1 h2).imp fun _ _ _=>Ea
def Ax (h1:PS X st (tFS K J ds ds1 m1)):PSs X [st] (tFS K J ds ds1 m1):=zW h1
def Aw (h:PSs X rest (tFS K J ds ds2 m)) (hd:leD ds1 ds2=true):PSs X rest (tFS K J ds ds1 m):=h.imp fun _ _ _=>D8 hd
def AD (he:PE X e (tF K false ds ds1 d f)) (hs:swapsWith e none pos.line X.env=pure false):PS X (.Expr e pos) (tFS K J ds ds1 (lF f)):=(zX he hs).imp fun _ _ _=>Ee
def AB (he:PE X e (tF K false ds ds1 J.dr f)) (hd:leD J.dsr ds1=true):PS X (.Return (some e) pos) (tFS K J ds ds' (aD f)):=(Dm he).imp fun _ _ _=>Eb hd
def Ef (hc:PT X c (tFT K false ds ds1 c1)) (ha:PSs X body (tFS K J ds1 ds2 m1)) (hb:PSs X bodyB (tFS K J ds1 ds2 m2)):PS X (.If c body bodyB pos) (tFS K J ds ds2 (sIf c1 m1 m2)):=(E9 hc ha hb).imp fun _ _ _=>Fs
def AA {x:Str} {pos':Pos} (hN:X.N.Nodup) (hi:X.N[i]?=some x) (hx:Loc X.env.scope x) (he:PE X e (tF K false ds ds1 d f)) (hds:ds1.set i d=ds') (hl:i < ds1.length) (hk:i ∉ J.lk)
  (hs:swapsWith e (some (.Name x pos')) pos.line X.env=pure false) (hf:X.fn x=true\/X.env.scope.names.lookup x=some .local) :
  PS X (.Assign [.Name x pos'] e pos) (tFS K J ds ds' (aA i f)):=by
 subst hds;exact (Dl hN hi hx he hs hf).imp fun _ _ _=>D9 hl hk
def sx {c:Nat} {x:Str} {spos:Pos} {k:Expr} (hN:X.N[i]?=some x) (hv:Vis X.env.scope x) (he:PE X e (tF K false ds ds1 c fe)) (hk:PE X k (tF K false ds1 ds2 d2 fk)) (h1:ds2[i]?=some d) (hz:d≠0) (hc:dn d=c)
  (hdb:(x == ("__debug__" : Str))=false) (hcd:(x == ("__classdict__" : Str))=false)
  (ha:∀ v,assign (.Subscript (.Name x px) k spos) X.env v=(do
   let ov <- holding [v] (eval (.Name x px) X.env);let iv <- holding [v,ov] (eval k X.env)
   standAt spos
   holding [v,ov,iv] (setItem ov iv v)
   release [v,ov,iv] []))
  (hs:swapsWithSole [.Subscript (.Name x px) k spos] e pos.line X.env=pure false) (hw:swappedStores [.Subscript (.Name x px) k spos] e X.env=pure none)
  (h2:(assignEach [.Subscript (.Name x px) k spos] X.env).map (·.2)=[assign (.Subscript (.Name x px) k spos) X.env]) :
  PS X (.Assign [.Subscript (.Name x px) k spos] e pos) (tFS K J ds ds2 (dy i fk fe)) :=
 (Dp he (Dr (iq hN hv hdb hcd) hk rN ha) hs hw h2).imp fun _ _ _=>Az h1 hz hc
def sA {x:Str} (hN:X.N.Nodup) (hi:X.N[i]?=some x) (hx:Loc X.env.scope x) (hds:ds.set i 0=ds') (hl:i < ds.length) (hk:i ∉ lk) (hf:X.fn x=true\/X.env.scope.names.lookup x=some .local) :
  PG X (.Name x pos) (tFG K lk ds ds' (gN i)):=by
 subst hds;exact (zZ hN hi hx hf).imp fun _ _ _ _=>AM hl hk
def AC (hc:X.calm=true) (hi:PI X tg iter (tFI K false ds ds1 fi)) (hg:PG X tg (tFG K J.lk ds1 ds2 g)) (hb:PSs X body (tFS K { J with dsl:=ds1 } ds2 ds1 m)) (hp:PassesOwn (model X.prog X.w) X.A X.env X.xe)
  (hs:∀ x,foldedSetIterable iter X.env x=pure x):PS X (.For tg iter body [] pos) (tFS K J ds ds1 (eU fi g m)):=(Do hp hc hi hg hb hs).imp fun _ _ _=>Ed
end
def zo:D->Option (List D)
 | .list ts=>some ts
 | .tuple ts=>some ts
 | .str z=>some ((li z).map fun c=>.str (mk1 c))
 | _=>none
def c9 (f:ME):MI:=fun en=>(f en).bind fun r=>(zo r.1).map fun ts=>(ts,r.2)
section
variable {K:PySem.W.Frag} {O O1:AS} {H0 H:Hp} {ts:List D} {vs:List V} {a:Addr} {F:AS}
def jJ {O O1:AS} (h1:∀ a o,H0 a=some o->¬ O a->H a=some o) (h2:∀ a,O1 a->O a\/H0 a=none):Mv O O1 NoA H0 H:=⟨fun a o q z=>z.elim (h1 a o q) fun z=>z.elim,h2⟩
def p0 (h:FzL K O H0 a vs) (ho:Ows K O H0 ts 0 vs NoA):nO K O H0 (Itl K a) ts:=fun i H O1 h1 h2 h3=>by
 have sq:=(h.mv (jJ h1 h2)).sq;refine ⟨fun t ht=>?_,fun hl=>⟨vs,sq,by rw [ho.len]; omega⟩⟩;obtain ⟨v,hv,ov⟩:=ho.get ht;refine ⟨⟨vs,v,sq,hv⟩,fun x H1 ⟨e,y⟩=>?_⟩;subst e;have e2:=y vs sq;rw [hv] at e2;cases e2;exact ⟨fun _ _ q=>q,Ow.mv (jJ h1 h2) t (fun _ z=>z) ov⟩
def rH (h:FzT K O H0 a vs) (ho:Ows K O H0 ts 0 vs NoA):nO K O H0 (Itt K a) ts:=fun i H O1 h1 h2 h3=>by
 have sq:=(h.mv (jJ h1 h2)).sq;refine ⟨fun t ht=>?_,fun hl=>⟨vs,sq,by rw [ho.len]; omega⟩⟩;obtain ⟨v,hv,ov⟩:=ho.get ht;refine ⟨⟨vs,v,sq,hv⟩,fun x H1 ⟨e,y⟩=>?_⟩;subst e;have e2:=y vs sq;rw [hv] at e2;cases e2;exact ⟨fun _ _ q=>q,Ow.mv (jJ h1 h2) t (fun _ z=>z) ov⟩
def rJ {z:Str}:nO K O H0 (Its z) ((li z).map fun c=>.str (mk1 c)):=fun i H O1 h1 h2 h3=>by
 refine ⟨fun t ht=>?_,fun hl=>?_⟩
 ·rw [zao] at ht;obtain ⟨c,hc,e⟩:=zab.mp ht;have hi:i < z.cps.size:=by
   have:=(zah.mp hc).1;simpa [li] using this
  have hc':z.cps[i]?=some c:=by
   have:z.cps.toList[i]?=some c:=hc;simpa using this
  refine ⟨hi,fun x H1 ⟨e1,c',e2,e3⟩=>?_⟩;subst e1 e e3;rw [hc'] at e2;cases e2;exact ⟨fun _ _ q=>q,rfl⟩
 ·have:z.cps.size=i:=by
   rw [zad] at hl;simpa [li] using hl
  show z.cps.size<=i;omega
def mX {lo:Int} {n:Nat}:nO K O H0 (Itr lo n) ((List.range n).map fun k=>.int (lo+(k:Nat))):=fun i H O1 h1 h2 h3=>by
 refine ⟨fun t ht=>?_,fun hl=>?_⟩
 ·rw [zao] at ht;obtain ⟨c,hc,e⟩:=zab.mp ht;have hi:=(zah.mp hc).1;rw [List.length_range] at hi;rw [List.getElem?_range hi] at hc;cases hc;refine ⟨hi,fun x H1 ⟨e1,e2⟩=>?_⟩;subst e1 e e2;exact ⟨fun _ _ q=>q,rfl⟩
 ·rw [zad,List.length_range] at hl;show n<=i;omega
def zJ (ts:List D):List D:=ts.zipIdx.map fun p=>.tuple [.int (p.2:Nat),p.1]
end
def cx (fa:MA):MI:=fun en=>(fa en).bind fun r=>match r.1 with
 | [.inl (.int j)]=>if -(2 ^ 62)<=j/\j < 2 ^ 62 then some ((List.range j.toNat).map fun k=>.int (0+(k:Nat)),r.2) else none
 | _=>none
def jk (fa:MA):MI:=fun en=>(fa en).bind fun r=>match r.1 with
 | [.inl (.int i),.inl (.int j)]=>if -(2 ^ 62)<=i/\i < 2 ^ 62/\-(2 ^ 62)<=j/\j < 2 ^ 62 then some ((List.range (j - i).toNat).map fun k=>.int (i+(k:Nat)),r.2) else none
 | _=>none
def Gw (fa:MA):MI:=fun en=>(fa en).bind fun r=>match r.1 with
 | [.inl (.list ts)]=>some (zJ ts,r.2)
 | [.inl (.tuple ts)]=>some (zJ ts,r.2)
 | _=>none
section
variable {X:Cx} {K:PySem.W.Frag} {p:Bool} {ds ds1:List Nat} {d:Nat} {e tg l:Expr} {f:ME} {fa:MA} {sh:Sh}
def Ek (hK:X.K=K) (hl:PE X l (tF K p ds ds1 d f)):PI X tg l (tFI K p ds ds1 (c9 f)):=by
 subst hK;intro pins s σ H R I h;obtain ⟨Ox,en,Rg,ts,en',e,hf,k⟩:=h;unfold c9 at hf;obtain ⟨⟨t,en1⟩,h1,hf⟩:=zaa.mp hf;obtain ⟨ts',h2,hf⟩:=zab.mp hf;cases hf;refine thn (hl pins s σ H (fun v H1=>∃ R1,Post X.K p ds1 Ox σ H en Rg en1 H1 R1 NoA/\Ow X.K (Own R1 Ox) H1 t 0 v NoA) I ⟨Ox,en,Rg,t,en1,e,h1,fun v H1 R1 F P o=>⟨R1,P.less fun _ z=>z.elim,Ow.letgo P (fun _ z=>z) o⟩⟩) fun v s1 ⟨x,H1,I1,r1,R1,P,o⟩=>?_;cases t with
 | list ts0 =>
  cases h2;obtain ⟨a,vs,e1,⟨_,fz,ow⟩ | ⟨z,_⟩⟩:=o
  ·subst e1;cases r1;obtain ⟨its,rv,pl,hz⟩:=I1.list fz.sq;refine wpAny_pyIter_list pl.isList ?_;refine ⟨s1.heap.objs.size,[s1.heap.objs.size],_,_,H1,rfl,I1.kept (t':=s1.toks) fun b o e=>zaf _ e,p7 a _,⟨_,zan _ rfl,rfl,rfl⟩,fun b hb=>?_,k _ H1 R1 P (p0 fz ow)⟩;have e:b=s1.heap.objs.size:=by simpa using hb
   subst e;exact I1.fpOk (zav _) (I1.hok.fresh (zav _))
  ·exact absurd rfl z
 | tuple ts0 =>
  cases h2;obtain ⟨a,vs,e1,⟨_,fz,ow⟩ | ⟨z,_⟩⟩:=o
  ·subst e1;cases r1;obtain ⟨its,rv,pl,hz⟩:=I1.tuple fz.sq;refine wpAny_pyIter_tuple (show s1.heap.IsTuple a its.toArray from pl) ?_;refine ⟨s1.heap.objs.size,[s1.heap.objs.size],_,_,H1,rfl,I1.kept (t':=s1.toks) fun b o e=>zaf _ e,oR a _,⟨_,zan _ rfl,rfl,rfl⟩,fun b hb=>?_,k _ H1 R1 P (rH fz ow)⟩;have e:b=s1.heap.objs.size:=by simpa using hb
   subst e;exact I1.fpOk (zav _) (I1.hok.fresh (zav _))
  ·exact absurd rfl z
 | str z =>
  cases h2;have e1:x=.str z:=o;subst e1;obtain ⟨t,rfl⟩:=r1;have fin:∀ (ty:String) (o:Obj),(ty="str_ascii_iterator"\/ty="str_iterator")->(s1.heap.push o).IsStrIter s1.heap.objs.size ty z t 0->PIE X pins σ tg R (.ref s1.heap.objs.size) { s1 with heap:=s1.heap.push o }:=fun ty o hty st=>by
   refine ⟨s1.heap.objs.size,[s1.heap.objs.size],_,_,H1,rfl,I1.kept (t':=s1.toks) fun b o e=>zaf _ e,rK _ z t ty hty,st,fun b hb=>?_,k _ H1 R1 P rJ⟩;have e:b=s1.heap.objs.size:=by simpa using hb
   subst e;exact I1.fpOk (zav _) (I1.hok.fresh (zav _))
  cases ha:z.cps.all (· < 128)
  ·exact wpAny_pyIter_wide ha (fin _ _ (.inr rfl) ⟨_,zan _ rfl,rfl,rfl⟩)
  ·exact wpAny_pyIter_ascii ha (fin _ _ (.inl rfl) ⟨_,zan _ rfl,rfl,rfl⟩)
 | _=>cases h2
def AL {a:Expr} {px pos:Pos} (hg:Gl X "range") (hm:X.mg "range"=none) (ha:PA X [a] (tFA K p ds ds1 sh fa)) (hs:aN a=true):PI X tg (.Call (.Name "range" px) [a] [] pos) (tFI K p ds ds1 (cx fa)) :=
 (ql hg hm ha (bh hs)).imp fun σ H R ⟨Ox,en,Rg,ts,en',e,hf,k⟩=>by
  unfold cx at hf;obtain ⟨⟨as,en1⟩,h1,hf⟩:=zaa.mp hf;refine ⟨Ox,en,Rg,as,en1,e,h1,fun vs H1 R1 F P o=>?_⟩
  dsimp only at hf
  split at hf
  case h_2=>cases hf
  next j =>
  by_cases hj:-(2 ^ 62)<=j/\j < 2 ^ 62
  case neg=>rw [if_neg hj] at hf; cases hf
  rw [if_pos hj] at hf;cases hf;obtain ⟨v,r,d,dr,F1,F2,e1,e2,_,_,_,o1,o2⟩:=o;obtain ⟨_,o2⟩:=o2;subst e1 o2;have ev:v=.int j:=o1;subst ev;exact ⟨j,rfl,hj.1,hj.2,k _ H1 R1 (P.less fun _ z=>z.elim) mX⟩
def AK {a b:Expr} {px pos:Pos} (hg:Gl X "range") (hm:X.mg "range"=none) (ha:PA X [a,b] (tFA K p ds ds1 sh fa)) (hs:aN a=true) (hs2:aN b=true):PI X tg (.Call (.Name "range" px) [a,b] [] pos) (tFI K p ds ds1 (jk fa)) :=
 (qk hg hm ha (by rw [bh hs,bh hs2]; rfl) (bh hs2)).imp fun σ H R ⟨Ox,en,Rg,ts,en',e,hf,k⟩=>by
  unfold jk at hf;obtain ⟨⟨as,en1⟩,h1,hf⟩:=zaa.mp hf;refine ⟨Ox,en,Rg,as,en1,e,h1,fun vs H1 R1 F P o=>?_⟩
  dsimp only at hf
  split at hf
  case h_2=>cases hf
  next i j =>
  by_cases hj:-(2 ^ 62)<=i/\i < 2 ^ 62/\-(2 ^ 62)<=j/\j < 2 ^ 62
  case neg=>rw [if_neg hj] at hf; cases hf
  rw [if_pos hj] at hf;cases hf;obtain ⟨v,r,d,dr,F1,F2,e1,e2,_,_,_,o1,v2,r2,d2,dr2,G1,G2,e3,e4,_,_,_,o2,o3⟩:=o;obtain ⟨_,o3⟩:=o3;subst e1 e3 o3;have ev:v=.int i:=o1;have ev2:v2=.int j:=o2;subst ev ev2;exact ⟨i,j,rfl,hj,k _ H1 R1 (P.less fun _ z=>z.elim) mX⟩
end
def NewTo.refl {H:Hp}:NewTo H H NoA:=⟨fun _ _ q=>q,fun _ z=>z.elim⟩
def OpR.imp {X:Cx} {fn:Value->Value->Sem Value} {r r':R2} (h:OpR X fn r) (hi:∀ x y H Q,r' x y H Q->r x y H Q):OpR X fn r':=fun pins s σ H x y v u Q I rx ry q=>h pins s σ H x y v u Q I rx ry (hi _ _ _ _ q)
def OpR.or' {X:Cx} {fn:Value->Value->Sem Value} {r r':R2} (h:OpR X fn r) (h':OpR X fn r'):OpR X fn (fun x y H Q=>r x y H Q\/r' x y H Q):=fun pins s σ H x y v u Q I rx ry q=>q.elim (h pins s σ H x y v u Q I rx ry) (h' pins s σ H x y v u Q I rx ry)
def UnR.imp {X:Cx} {fn:Value->Sem Value} {r r':V->Hp->VK->Prop} (h:UnR X fn r) (hi:∀ x H Q,r' x H Q->r x H Q):UnR X fn r':=fun pins s σ H x v Q I rx q=>h pins s σ H x v Q I rx (hi _ _ _ q)
def CallR.imp {X:Cx} {fn:Value} {r r':List V->Hp->VK->Prop} (h:CallR X fn r) (hi:∀ x H Q,r' x H Q->r x H Q):CallR X fn r':=fun pins s σ H x v Q I rx q=>h pins s σ H x v Q I rx (hi _ _ _ q)
def CallR.or' {X:Cx} {fn:Value} {r r':List V->Hp->VK->Prop} (h:CallR X fn r) (h':CallR X fn r'):CallR X fn (fun x H Q=>r x H Q\/r' x H Q):=fun pins s σ H x v Q I rx q=>q.elim (h pins s σ H x v Q I rx) (h' pins s σ H x v Q I rx)
def IxR.imp {X:Cx} {r r':R2} (h:IxR X r) (hi:∀ x y H Q,r' x y H Q->r x y H Q):IxR X r':=fun value slice pins s σ H x y v u Q I rx ry q=>h value slice pins s σ H x y v u Q I rx ry (hi _ _ _ _ q)
section
variable {X:Cx} {K:PySem.W.Frag} {O:AS} {H:Hp} {ts us:List D} {vs ws:List V} {x y:V} {d:Nat} {Q:VK}
def dz {l:Addr} (hl:H l=none) (hd:∀ a,O a->∃ o,H a=some o) (h:Ows K O H ts 0 vs NoA):NewTo H (upd H l (.lst vs)) (fun b=>b=l)/\Ow K (U (fun b=>b=l) O) (upd H l (.lst vs)) (.list ts) 1 (.ref l) (fun b=>b=l):=by
 refine ⟨cb hl,l,vs,rfl,.inr ⟨by decide,a8,rfl,NoA,fun _ z=>z.elim,?_⟩⟩;refine Ows.mv (G:=NoA) ⟨fun a o q _=>(cb (o:=.lst vs) hl).1 a o q,fun a z=>?_⟩ ts (fun _ z=>z) h;rcases z with z | z
 ·exact .inr (by rw [show a=l from z]; exact hl)
 ·exact .inl z
def ir {l:Addr} (hl:H l=none) (hd:∀ a,O a->∃ o,H a=some o) (h:Ows K O H ts 0 vs NoA):NewTo H (upd H l (.tup vs)) NoA/\Ow K (U NoA O) (upd H l (.tup vs)) (.tuple ts) 0 (.ref l) NoA:=by
 refine ⟨⟨(cb hl).1,fun _ z=>z.elim⟩,l,vs,rfl,.inl ⟨rfl,⟨a8,fun z=>?_⟩,?_⟩⟩
 ·rcases z with z | z
  ·exact z
  ·obtain ⟨o,q⟩:=hd l z;rw [hl] at q;cases q
 ·refine Ows.mv (G:=NoA) ⟨fun a o q _=>(cb (o:=.tup vs) hl).1 a o q,fun a z=>?_⟩ ts (fun _ z=>z) h;rcases z with z | z
  ·exact z.elim
  ·exact .inl z
def Ows.app:∀ {ts:List D} {vs:List V},Ows K O H ts 0 vs NoA->Ows K O H us 0 ws NoA->Ows K O H (ts++us) 0 (vs++ws) NoA
 | [],_,h,h2=>by rw [show _=[] from h]; exact h2
 | t :: ts,_,h,h2=>by
  obtain ⟨v,r,F1,F2,e,_,_,_,h4,h5⟩:=h;subst e;exact ⟨v,r++ws,NoA,NoA,rfl,fun _ z=>z,fun _ z=>z,fun _ z=>z.elim,Ow.any0 t h4,Ows.app (Ows.any0 ts h5) h2⟩
def Ows.drop:∀ {ts:List D} {vs:List V} (n:Nat),Ows K O H ts 0 vs NoA->Ows K O H (ts.drop n) 0 (vs.drop n) NoA
 | ts,vs,0,h=>h
 | [],_,n+1,h=>by rw [show _=[] from h]; rfl
 | t :: ts,_,n+1,h=>by
  obtain ⟨v,r,F1,F2,e,_,_,_,h4,h5⟩:=h;subst e;exact Ows.drop n (Ows.any0 ts h5)
def Ows.take:∀ {ts:List D} {vs:List V} (n:Nat),Ows K O H ts 0 vs NoA->Ows K O H (ts.take n) 0 (vs.take n) NoA
 | ts,vs,0,h=>rfl
 | [],_,n+1,h=>by rw [show _=[] from h]; rfl
 | t :: ts,_,n+1,h=>by
  obtain ⟨v,r,F1,F2,e,_,_,_,h4,h5⟩:=h;subst e;exact ⟨v,r.take n,NoA,NoA,rfl,fun _ z=>z,fun _ z=>z,fun _ z=>z.elim,Ow.any0 t h4,Ows.take n (Ows.any0 ts h5)⟩
def Ow.lst0 {v:V} (h:Ow K O H (.list ts) 0 v NoA):∃ a vs,v=.ref a/\FzL K O H a vs/\Ows K O H ts 0 vs NoA:=by
 obtain ⟨a,vs,e,⟨_,h1,h2⟩ | ⟨z,_⟩⟩:=h
 ·exact ⟨a,vs,e,h1,h2⟩
 ·exact absurd rfl z
def Ow.tup0 {v:V} (h:Ow K O H (.tuple ts) 0 v NoA):∃ a vs,v=.ref a/\FzT K O H a vs/\Ows K O H ts 0 vs NoA:=by
 obtain ⟨a,vs,e,⟨_,h1,h2⟩ | ⟨z,_⟩⟩:=h
 ·exact ⟨a,vs,e,h1,h2⟩
 ·exact absurd rfl z
def Ows.one {t:D} (h:Ows K O H [t] 0 vs NoA):∃ v,vs=[v]/\Ow K O H t 0 v NoA:=by
 obtain ⟨v,r,F1,F2,e,_,_,_,h4,h5⟩:=h;rw [show r=[] from h5] at e;exact ⟨v,e,Ow.any0 t h4⟩
def Ows.two {t t2:D} (h:Ows K O H [t,t2] 0 vs NoA):∃ v w,vs=[v,w]/\Ow K O H t 0 v NoA/\Ow K O H t2 0 w NoA:=by
 obtain ⟨v,r,F1,F2,e,_,_,_,h4,h5⟩:=h;obtain ⟨w,e2,h6⟩:=Ows.one (Ows.any0 [t2] h5);subst e2;exact ⟨v,w,e,Ow.any0 t h4,h6⟩
def bp:D->D->Option D
 | .int a,.int b=>some (.int (a+b))
 | .str a,.str b=>if a.length+b.length<=sizeLine then some (.str (a++b)) else none
 | _,_=>none
def bj:OpR X (binaryOp .Add) (rF2 K bp 3):=(op_add.or' pd).imp fun x y H Q ⟨O,a,b,t,oa,ob,hd,hg,k⟩=>by
 cases a with
 | int i=>cases b with
  | int j=>cases hg; exact .inl ⟨i,j,oa,ob,k _ H NoA .refl rfl⟩
  | _=>cases hg
 | str i=>cases b with
  | str j =>
   dsimp only [bp] at hg
   by_cases hl:i.length+j.length<=sizeLine
   ·rw [if_pos hl] at hg; cases hg; exact .inr ⟨i,j,oa,ob,hl,k _ H NoA .refl rfl⟩
   ·rw [if_neg hl] at hg; cases hg
  | _=>cases hg
 | _=>cases hg
def hV (g:Int->Int->Option D):D->D->Option D
 | .int a,.int b=>g a b
 | _,_=>none
def cQ {g:Int->Int->Option D} {a b t:D} (h:hV g a b=some t):∃ i j,a=.int i/\b=.int j/\g i j=some t:=by
 cases a with
 | int i=>cases b with
  | int j=>exact ⟨i,j,rfl,rfl,h⟩
  | _=>cases h
 | _=>cases h
def ce:D->D->Option D:=hV fun a b=>some (.int (a - b))
def bM:OpR X (binaryOp .Sub) (rF2 K ce 3):=op_sub.imp fun x y H Q ⟨O,a,b,t,oa,ob,hd,hg,k⟩=>by
 obtain ⟨i,j,rfl,rfl,h⟩:=cQ hg;cases h;exact ⟨i,j,oa,ob,k _ H NoA .refl rfl⟩
instance (i j:Int):Decidable (CMul i j):=by unfold CMul; exact inferInstance
instance (i j:Int):Decidable (iX i j):=by unfold iX; exact inferInstance
instance (i j:Int):Decidable (ik i j):=by unfold ik; exact inferInstance
def df:D->D->Option D:=hV fun a b=>if CMul a b then some (.int (a * b)) else none
def iw:OpR X (binaryOp .Mult) (rF2 K df 3):=op_mul.imp fun x y H Q ⟨O,a,b,t,oa,ob,hd,hg,k⟩=>by
 obtain ⟨i,j,rfl,rfl,h⟩:=cQ hg;by_cases hc:CMul i j
 ·rw [if_pos hc] at h; cases h; exact ⟨i,j,oa,ob,hc,k _ H NoA .refl rfl⟩
 ·rw [if_neg hc] at h; cases h
def fR:D->D->Option D:=hV fun a b=>if iX a b then some (.int (a / b)) else none
def oG:OpR X (binaryOp .FloorDiv) (rF2 K fR 3):=op_fdiv.imp fun x y H Q ⟨O,a,b,t,oa,ob,hd,hg,k⟩=>by
 obtain ⟨i,j,rfl,rfl,h⟩:=cQ hg;by_cases hc:iX i j
 ·rw [if_pos hc] at h; cases h; exact ⟨i,j,oa,ob,hc,k _ H NoA .refl rfl⟩
 ·rw [if_neg hc] at h; cases h
def cF:D->D->Option D:=hV fun a b=>if 0 < b then some (.int (a % b)) else none
def gm:OpR X (binaryOp .Mod) (rF2 K cF 3):=op_mod.imp fun x y H Q ⟨O,a,b,t,oa,ob,hd,hg,k⟩=>by
 obtain ⟨i,j,rfl,rfl,h⟩:=cQ hg;by_cases hc:0 < j
 ·rw [if_pos hc] at h; cases h; exact ⟨i,j,oa,ob,hc,k _ H NoA .refl rfl⟩
 ·rw [if_neg hc] at h; cases h
def lG:D->D->Option D:=hV fun a b=>if ik a b then some (.int (a ^ b.toNat)) else none
def qM:OpR X (binaryOp .Pow) (rF2 K lG 3):=op_pow.imp fun x y H Q ⟨O,a,b,t,oa,ob,hd,hg,k⟩=>by
 obtain ⟨i,j,rfl,rfl,h⟩:=cQ hg;by_cases hc:ik i j
 ·rw [if_pos hc] at h; cases h; exact ⟨i,j,oa,ob,hc,k _ H NoA .refl rfl⟩
 ·rw [if_neg hc] at h; cases h
def ltI:D->D->Option D:=hV fun a b=>some (.bool (decide (a < b)))
def leI:D->D->Option D:=hV fun a b=>some (.bool (decide (a<=b)))
def gtI:D->D->Option D:=hV fun a b=>some (.bool (decide (b < a)))
def geI:D->D->Option D:=hV fun a b=>some (.bool (decide (b<=a)))
def zH:OpR X (compareOp .Lt) (rF2 K ltI 3):=op_lt.imp fun x y H Q ⟨O,a,b,t,oa,ob,hd,hg,k⟩=>by
 obtain ⟨i,j,rfl,rfl,h⟩:=cQ hg;cases h;exact ⟨i,j,oa,ob,k _ H NoA .refl rfl⟩
def fg:OpR X (compareOp .LtE) (rF2 K leI 3):=op_le.imp fun x y H Q ⟨O,a,b,t,oa,ob,hd,hg,k⟩=>by
 obtain ⟨i,j,rfl,rfl,h⟩:=cQ hg;cases h;exact ⟨i,j,oa,ob,k _ H NoA .refl rfl⟩
def mS:OpR X (compareOp .Gt) (rF2 K gtI 3):=op_gt.imp fun x y H Q ⟨O,a,b,t,oa,ob,hd,hg,k⟩=>by
 obtain ⟨i,j,rfl,rfl,h⟩:=cQ hg;cases h;exact ⟨i,j,oa,ob,k _ H NoA .refl rfl⟩
def Fv:OpR X (compareOp .GtE) (rF2 K geI 3):=op_ge.imp fun x y H Q ⟨O,a,b,t,oa,ob,hd,hg,k⟩=>by
 obtain ⟨i,j,rfl,rfl,h⟩:=cQ hg;cases h;exact ⟨i,j,oa,ob,k _ H NoA .refl rfl⟩
def lL:D->Bool
 | .none=>true
 | _=>false
def sr {a:D} {F:AS} (h:Ow K O H a d x F):decide (x=.non)=lL a:=by
 cases a with
 | none=>rw [show x=.non from h]; rfl
 | bool b=>rw [show x=.bl b from h]; rfl
 | int b=>rw [show x=.int b from h]; rfl
 | str b=>rw [show x=.str b from h]; rfl
 | list ts=>obtain ⟨a,vs,e,_⟩:=h; rw [e]; rfl
 | tuple ts=>obtain ⟨a,vs,e,_⟩:=h; rw [e]; rfl
 | dict ts=>obtain ⟨a,vs,e,_⟩:=h; rw [e]; rfl
def isN:D->D->Option D
 | a,.none=>some (.bool (lL a))
 | _,_=>none
def GK:D->D->Option D
 | a,.none=>some (.bool (!lL a))
 | _,_=>none
def qO:OpR X (compareOp .Is) (rF2 K isN 3):=op_isN.imp fun x y H Q ⟨O,a,b,t,oa,ob,hd,hg,k⟩=>by
 cases b with
 | none=>cases hg; exact ⟨ob,by rw [sr oa]; exact k _ H NoA .refl rfl⟩
 | _=>cases hg
def pK:D->D->Option D
 | .str a,.str b=>some (.bool (cg b a))
 | _,_=>none
def jL:D->D->Option D
 | .str a,.str b=>some (.bool (!cg b a))
 | _,_=>none
def qP:OpR X (compareOp .In) (rF2 K pK 3):=op_inS.imp fun x y H Q ⟨O,a,b,t,oa,ob,hd,hg,k⟩=>by
 cases a with
 | str i=>cases b with
  | str j=>cases hg; exact ⟨i,j,oa,ob,k _ H NoA .refl rfl⟩
  | _=>cases hg
 | _=>cases hg
def mi:OpR X (compareOp .NotIn) (rF2 K jL 3):=op_notInS.imp fun x y H Q ⟨O,a,b,t,oa,ob,hd,hg,k⟩=>by
 cases a with
 | str i=>cases b with
  | str j=>cases hg; exact ⟨i,j,oa,ob,k _ H NoA .refl rfl⟩
  | _=>cases hg
 | _=>cases hg
def ixA:D->D->Option D
 | .list ts,.int n=>atI ts n
 | .tuple ts,.int n=>atI ts n
 | .str z,.int n=>if z.length<=sizeLine then (atI z.cps.toList n).map fun c=>.str (mk1 c) else none
 | _,_=>none
def iJ (hK:X.K=K):IxR X (rF2 K ixA 0):=by
 subst hK;refine ix_seq.imp fun x y H Q ⟨O,a,b,t,oa,ob,hd,hg,k⟩=>?_;cases b with
 | int n =>
  cases a with
  | list ts =>
   obtain ⟨a,vs,e,fz,ow⟩:=oa.lst0;obtain ⟨v,h1,h2⟩:=ow.atI hg;exact .inl ⟨a,vs,n,v,e,ob,fz.sq,h1,k v H NoA .refl (by rw [eJ]; exact h2)⟩
  | tuple ts =>
   obtain ⟨a,vs,e,fz,ow⟩:=oa.tup0;obtain ⟨v,h1,h2⟩:=ow.atI hg;exact .inr (.inl ⟨a,vs,n,v,e,ob,fz.sq,h1,k v H NoA .refl (by rw [eJ]; exact h2)⟩)
  | str z =>
   dsimp only [ixA] at hg
   by_cases hl:z.length<=sizeLine
   ·rw [if_pos hl] at hg;obtain ⟨c,h1,h2⟩:=zab.mp hg;cases h2;exact .inr (.inr ⟨z,n,c,oa,ob,hl,h1,k _ H NoA .refl rfl⟩)
   ·rw [if_neg hl] at hg; cases hg
  | _=>cases hg
 | _=>cases a <;> cases hg
def ixT:D->D->Option D
 | .str z,.int n=>if z.length<=sizeLine then (atI z.cps.toList n).map fun c=>.str (mk1 c) else none
 | _,_=>none
def qN:IxR X (rF2 K ixT 3):=by
 refine ix_str.imp fun x y H Q ⟨O,a,b,t,oa,ob,hd,hg,k⟩=>?_;cases a with
 | str z=>cases b with
  | int n =>
   dsimp only [ixT] at hg
   by_cases hl:z.length<=sizeLine
   ·rw [if_pos hl] at hg;obtain ⟨c,h1,h2⟩:=zab.mp hg;cases h2;exact ⟨z,n,c,oa,ob,hl,h1,k _ H NoA .refl rfl⟩
   ·rw [if_neg hl] at hg; cases hg
  | _=>cases hg
 | _=>cases hg
def bF:D->D->Option D
 | .list a,.list b=>if a.length+b.length<=sizeLine then some (.list (a++b)) else none
 | _,_=>none
def jp:D->D->Option D
 | .tuple a,.tuple b=>if a.length+b.length<=sizeLine then some (.tuple (a++b)) else none
 | _,_=>none
end
def grd {α:Type} (c:Prop) [Decidable c] (t:α):Option α:=if c then some t else none
def bV {α:Type} {c:Prop} [Decidable c] {t u:α} (h:grd c t=some u):c/\t=u:=by
 unfold grd at h;by_cases hc:c
 ·rw [if_pos hc] at h; exact ⟨hc,zat h⟩
 ·rw [if_neg hc] at h; cases h
section
variable {X:Cx} {K:PySem.W.Frag} {O:AS} {H:Hp} {ts us:List D} {vs ws:List V} {x y:V} {d:Nat} {Q:VK}
def E7 (K:PySem.W.Frag):R2:=fun x y H Q=>∃ l b xs zs,x=.ref l/\y=.ref b/\SqL K H l xs/\SqL K H b zs/\xs.length+zs.length<=sizeLine/\∀ p,H p=none->Q (.ref p) (upd H p (.lst (xs++zs)))
def op_catL:OpR X (binaryOp .Add) (E7 X.K):=by
 intro pins s σ H x y v u Q I rx ry h;obtain ⟨l,b,xs,zs,rfl,rfl,hH,hB,hz,q⟩:=h;cases rx;cases ry;obtain ⟨its,r,⟨⟨c1,dd,da1,sl⟩,n,ho,hc,hdd,hda⟩,_⟩:=I.list hH;obtain ⟨its2,r2,⟨⟨c2,dd2,da2,sl2⟩,n2,ho2,hc2,hdd2,hda2⟩,_⟩:=I.list hB;have hl:=r.length;have hl2:=r2.length;simp only at hc hda hc2 hda2;subst hc hda hc2 hda2;refine concat_meets ⟨_,ho,rfl⟩ ⟨_,ho2,rfl⟩ noFill_list_add seq_list_add PySem.F.slot_list_add PySem.F.entry_list_add (PySem.F.args_list_add_2 _ _) (list_addW l b its.toArray its2.toArray n n2 dd dd2 sl sl2 (by simp only [zai]; omega)) ⟨ho,ho2,?_⟩;have ea:its.toArray++its2.toArray=(its++its2).toArray:=by simp
 rw [ea];exact ⟨.ref _,_,I.lnew (t':=s.toks) (r.append r2) (by rw [zae]; omega),rfl,q _ I.fresh⟩
def aR (hK:X.K=K):OpR X (binaryOp .Add) (rF2 K bF 1):=by
 subst hK;refine op_catL.imp fun x y H Q ⟨O,a,b,t,oa,ob,hd,hg,k⟩=>?_;cases a with
 | list ts=>cases b with
  | list us =>
   dsimp only [bF] at hg
   by_cases hl:ts.length+us.length<=sizeLine
   case neg=>rw [if_neg hl] at hg; cases hg
   rw [if_pos hl] at hg;cases hg;obtain ⟨a,vs,e1,f1,w1⟩:=oa.lst0;obtain ⟨b,ws,e2,f2,w2⟩:=ob.lst0;refine ⟨a,b,vs,ws,e1,e2,f1.sq,f2.sq,by rw [w1.len,w2.len]; exact hl,fun p hp=>?_⟩;obtain ⟨n1,n2⟩:=dz hp hd (w1.app w2);exact k _ _ _ n1 n2
  | _=>cases hg
 | _=>cases hg
def fZ (hK:X.K=K):OpR X (binaryOp .Add) (rF2 K jp 0):=by
 intro pins s σ H x y v u Q I rx ry ⟨O,a,b,t,oa,ob,hd,hg,k⟩;cases a with
 | tuple ts=>cases b with
  | tuple us =>
   dsimp only [jp] at hg
   by_cases hl:ts.length+us.length<=sizeLine
   case neg=>rw [if_neg hl] at hg; cases hg
   rw [if_pos hl] at hg;cases hg;obtain ⟨a,vs,e1,f1,w1⟩:=oa.tup0;obtain ⟨b,ws,e2,f2,w2⟩:=ob.tup0;have l1:=w1.len;have l2:=w2.len;by_cases hx:vs=[]
   ·subst hx;have et:ts=[]:=za6.mp l1.symm;subst et;refine rT hK pins s σ H x y v u Q I rx ry ⟨a,b,ws,e1,e2,f1.sq,f2.sq,?_⟩;rw [<- e2];exact k y H NoA .refl (by rw [eJ]; exact ob)
   ·refine Fk hK pins s σ H x y v u Q I rx ry ⟨a,b,vs,ws,e1,e2,f1.sq,f2.sq,hx,by omega,fun hy=>?_,fun hy p hp=>?_⟩
    ·subst hy;have et:us=[]:=za6.mp l2.symm;subst et;rw [<- e1];exact k x H NoA .refl (by rw [eJ,List.append_nil]; exact oa)
    ·obtain ⟨n1,n2⟩:=ir hp hd (w1.app w2);exact k _ _ _ n1 n2
  | _=>cases hg
 | _=>cases hg
def GM:D->D->Option D
 | .list ts,.int k=>grd (-(2 ^ 63)<=k/\k < 2 ^ 63/\ts.length * k.toNat<=sizeLine) (.list (List.replicate k.toNat ts).flatten)
 | _,_=>none
def je:D->D->Option D
 | .str z,.int k=>grd (z.length<=4000/\-(2 ^ 63)<=k/\k<=4000) (.str (Txt.mul z k))
 | _,_=>none
def fY:OpR X (binaryOp .Mult) (rF2 K je 3):=op_mulS.imp fun x y H Q ⟨O,a,b,t,oa,ob,hd,hg,k⟩=>by
 cases a with
 | str z=>cases b with
  | int n =>
   obtain ⟨⟨c1,c2,c3⟩,rfl⟩:=bV hg;exact ⟨z,n,oa,ob,c1,c2,c3,k _ H NoA .refl rfl⟩
  | _=>cases hg
 | _=>cases hg
def kj:D->Option D
 | .int i=>some (.int (-i))
 | _=>none
def jm:UnR X (unaryOp .USub) (rF1 K kj 3):=un_neg.imp fun x H Q ⟨O,a,t,oa,hd,hg,k⟩=>by
 cases a with
 | int i=>cases hg; exact ⟨i,oa,k _ H NoA .refl rfl⟩
 | _=>cases hg
def aS:List D->Option D
 | [.list ts]=>some (.int ts.length)
 | [.tuple ts]=>some (.int ts.length)
 | [.str z]=>grd (z.length<=sizeLine) (.int z.length)
 | _=>none
def Eh (hK:X.K=K):CallR X (.builtin "len") (rFn K aS 3):=(Gc hK).imp fun xs H Q ⟨O,as,t,oa,hd,hg,k⟩=>by
 match as,hg with
 | [.list ts],hg =>
  cases hg;obtain ⟨v,rfl,o⟩:=oa.one;obtain ⟨a,vs,rfl,fz,w⟩:=o.lst0;exact ⟨_,_,rfl,.inl ⟨vs,fz.sq,rfl⟩,by rw [w.len]; exact k _ H NoA .refl rfl⟩
 | [.tuple ts],hg =>
  cases hg;obtain ⟨v,rfl,o⟩:=oa.one;obtain ⟨a,vs,rfl,fz,w⟩:=o.tup0;exact ⟨_,_,rfl,.inr ⟨vs,fz.sq,rfl⟩,by rw [w.len]; exact k _ H NoA .refl rfl⟩
 | [.str z],hg =>
  obtain ⟨c,rfl⟩:=bV hg;obtain ⟨v,rfl,o⟩:=oa.one;exact ⟨_,_,rfl,by rw [show v=.str z from o]; exact ⟨c,rfl⟩,k _ H NoA .refl rfl⟩
def kA:List D->Option D
 | [.int i]=>some (.int (if i < 0 then -i else i))
 | _=>none
def qR:CallR X (.builtin "abs") (rFn K kA 3):=call_abs.imp fun xs H Q ⟨O,as,t,oa,hd,hg,k⟩=>by
 match as,hg with
 | [.int i],hg =>
  cases hg;obtain ⟨v,rfl,o⟩:=oa.one;exact ⟨i,by rw [show v=.int i from o],k _ H NoA .refl rfl⟩
def GE:List D->Option D
 | [.int i,.int j]=>some (.int (if j > i then j else i))
 | _=>none
def kS:List D->Option D
 | [.int i,.int j]=>some (.int (if j < i then j else i))
 | _=>none
def lM (hc:X.calm=true):CallR X (.builtin "min") (rFn K kS 3):=(rf hc).imp fun xs H Q ⟨O,as,t,oa,hd,hg,k⟩=>by
 match as,hg with
 | [.int i,.int j],hg =>
  cases hg;obtain ⟨v,w,rfl,o,o2⟩:=oa.two;exact ⟨i,j,by rw [show v=.int i from o,show w=.int j from o2],k _ H NoA .refl rfl⟩
def GN:List D->Option D
 | [.int i]=>some (.int i)
 | [.bool b]=>some (.int (if b then 1 else 0))
 | _=>none
def ff (z:Str):List D:=(li z).map fun c=>.str (mk1 c)
def m8 {z:Str}:Ows K O H (ff z) 0 (dw z) NoA:=by
 unfold ff dw;show Ows K O H ((li z).map fun c=>.str (mk1 c)) 0 ((li z).map sgn) NoA;generalize li z=l
 induction l with
 | nil=>rfl
 | cons c r ih=>exact ⟨sgn c,r.map sgn,NoA,NoA,rfl,fun _ z=>z,fun _ z=>z,fun _ z=>z.elim,rfl,ih⟩
def fO:List D->Option D
 | [.list ts]=>some (.list ts)
 | [.tuple ts]=>some (.list ts)
 | [.str z]=>grd (z.cps.size<=sizeLine) (.list (ff z))
 | _=>none
def jO (hK:X.K=K) (hc:X.calm=true):CallR X (.type "list") (rFn K fO 1):=((Am hK).or' (lQ hc)).imp fun xs H Q ⟨O,as,t,oa,hd,hg,k⟩=>by
 match as,hg with
 | [.list ts],hg =>
  cases hg;obtain ⟨v,rfl,o⟩:=oa.one;obtain ⟨a,vs,rfl,fz,w⟩:=o.lst0;exact .inl ⟨a,vs,rfl,.inl fz.sq,fun l hl=>k _ _ _ (dz hl hd w).1 (dz hl hd w).2⟩
 | [.tuple ts],hg =>
  cases hg;obtain ⟨v,rfl,o⟩:=oa.one;obtain ⟨a,vs,rfl,fz,w⟩:=o.tup0;exact .inl ⟨a,vs,rfl,.inr fz.sq,fun l hl=>k _ _ _ (dz hl hd w).1 (dz hl hd w).2⟩
 | [.str z],hg =>
  obtain ⟨c,rfl⟩:=bV hg;obtain ⟨v,rfl,o⟩:=oa.one;exact .inr ⟨z,by rw [show v=.str z from o],c,fun l hl=>k _ _ _ (dz (K:=K) hl hd m8).1 (dz hl hd m8).2⟩
def oT:List D->Option D
 | [.list ts]=>some (.tuple ts)
 | [.tuple ts]=>some (.tuple ts)
 | _=>none
def sy (hK:X.K=K):CallR X (.type "tuple") (rFn K oT 0):=(DN hK).imp fun xs H Q ⟨O,as,t,oa,hd,hg,k⟩=>by
 match as,hg with
 | [.list ts],hg =>
  cases hg;obtain ⟨v,rfl,o⟩:=oa.one;obtain ⟨a,vs,rfl,fz,w⟩:=o.lst0;exact ⟨a,vs,rfl,.inl ⟨fz.sq,fun l hl=>k _ _ _ (ir hl hd w).1 (ir hl hd w).2⟩⟩
 | [.tuple ts],hg =>
  cases hg;obtain ⟨v,rfl,o⟩:=oa.one;obtain ⟨a,vs,rfl,fz,w⟩:=o.tup0;exact ⟨a,vs,rfl,.inr ⟨fz.sq,k _ H NoA .refl (by rw [eJ]; exact o)⟩⟩
def ga:List D->Option (List Bool)
 | []=>some []
 | .bool b :: r=>(ga r).map (b :: ·)
 | _ :: _=>none
def l6:∀ {ts:List D} {vs:List V} {bs:List Bool},Ows K O H ts 0 vs NoA->ga ts=some bs->vs=bs.map V.bl
 | [],_,_,h,hb=>by cases hb; exact h
 | .bool b :: r,_,_,h,hb=>by
  obtain ⟨v,w,F1,F2,e,_,_,_,h4,h5⟩:=h;obtain ⟨bs',h6,h7⟩:=zab.mp hb;subst e h7;rw [show v=.bl b from h4,l6 (Ows.any0 r h5) h6];rfl
 | .none :: _,_,_,_,hb=>by cases hb
 | .int _ :: _,_,_,_,hb=>by cases hb
 | .str _ :: _,_,_,_,hb=>by cases hb
 | .list _ :: _,_,_,_,hb=>by cases hb
 | .tuple _ :: _,_,_,_,hb=>by cases hb
 | .dict _ :: _,_,_,_,hb=>by cases hb
def kz:List D->Option D
 | [.list ts]=>(ga ts).map fun bs=>.bool (bs.all id)
 | _=>none
def qQ (hK:X.K=K) (hc:X.calm=true):CallR X (.builtin "all") (rFn K kz 3):=(Ge hK hc).imp fun xs H Q ⟨O,as,t,oa,hd,hg,k⟩=>by
 match as,hg with
 | [.list ts],hg =>
  obtain ⟨bs,h1,rfl⟩:=zab.mp hg;obtain ⟨v,rfl,o⟩:=oa.one;obtain ⟨a,vs,rfl,fz,w⟩:=o.lst0;have e:=l6 w h1;subst e;exact ⟨a,bs,rfl,fz.sq,k _ H NoA .refl rfl⟩
def tyN:D->String
 | .none=>"NoneType" | .bool _=>"bool" | .int _=>"int" | .str _=>"str" | .list _=>"list" | .tuple _=>"tuple" | .dict _=>"dict"
def aG (n T:String):Bool:=n == T || (n == "bool" && T == "int")
def oC {T:String} (hT:T∈["int", "bool", "str", "list", "tuple", "dict"]) (a:D):PySem.W.kitOne K (.type (tyN a)) (.type T)=some (aG (tyN a) T):=by
 simp only [zay,zap,or_false] at hT;rcases hT with rfl | rfl | rfl | rfl | rfl | rfl <;> cases a <;> rfl
def isX:D->Bool
 | .dict [(.none,.str _)]=>true
 | _=>false
def E6 (K:PySem.W.Frag):List V->Hp->VK->Prop:=fun xs H Q=>∃ x T,∃ (O:AS) (a:D),xs=[x,.ty T]/\Ow K O H a 0 x NoA/\isX a=false/\T∈["int", "bool", "str", "list", "tuple", "dict"]/\Q (.bl (aG (tyN a) T)) H
def rh:CallR X (.builtin "isinstance") (E6 X.K):=by
 intro pins s σ H xs us Q I r h;obtain ⟨x,T,O,a,rfl,oa,hX,hT,q⟩:=h;have base:∀ ty,TyOf X.K H x (.type ty)->tyN a=ty->wpAny (model X.prog X.w) X.A (call (.builtin "isinstance") us) (EP X pins σ Q) X.xe s:=fun ty h1 h2=>by
  refine sO pins s σ H _ us Q I r ⟨x,.type ty,T,aG (tyN a) T,rfl,h1,?_,q⟩;rw [<- h2];exact oC hT a
 cases a with
 | none=>exact base _ (by rw [show x=.non from oa]; exact .non) rfl
 | bool b=>exact base _ (by rw [show x=.bl b from oa]; exact .bl b) rfl
 | int b=>exact base _ (by rw [show x=.int b from oa]; exact .int b) rfl
 | str b=>exact base _ (by rw [show x=.str b from oa]; exact .str b) rfl
 | tuple ts =>
  obtain ⟨p,vs,rfl,fz,w⟩:=oa.tup0;exact base _ (.tup fz.1) rfl
 | dict ts =>
  obtain ⟨p,vs,rfl,⟨_,h1,_⟩ | ⟨_,h1,_⟩ | ⟨_,⟨kk,b,_,h1,_⟩ | ⟨cn,C,h0,_⟩⟩⟩:=oa
  ·exact base _ (.dK h1) rfl
  ·exact base _ (.dK h1) rfl
  ·exact base _ (.dT h1) rfl
  ·subst h0; cases hX
 | list ts =>
  obtain ⟨p,vs,rfl,fz,w⟩:=oa.lst0;obtain ⟨u,u2,rfl,r1,r2⟩:=r.two;cases r1;cases r2;obtain ⟨its,rv,pl,_⟩:=I.list fz.sq;have e:=oC (K:=X.K) hT (.list ts);obtain ⟨o,n,h1,h2,_⟩:=pl;exact PySem.W.kia_one PySem.W.kitx_list I.kIn ⟨o,h1,h2⟩ e (fun z=>nomatch z) fun tk=>⟨.bl _,H,I.tok tk,rfl,q⟩
end
def aC (T:String):D->Option D:=fun a=>if isX a=true then none else some (.bool (aG (tyN a) T))
section
variable {X:Cx} {K:PySem.W.Frag} {p:Bool} {ds ds1:List Nat} {d1:Nat} {e:Expr} {f:ME}
def Ez {T:Str} {n:String} {px pt pos:Pos} (hK:X.K=K) (hg:Gl X "isinstance") (hm:X.mg "isinstance"=none) (hgT:Gl X T) (hmT:X.mg T=none) (hbT:bootBuiltins T=some (.type n)) (hT:n∈["int", "bool", "str", "list", "tuple", "dict"]) (he:PE X e (tF K p ds ds1 d1 f))
  (hnT:T≠"__name__") (hdT:(T == ("__debug__" : Str))=false)
  (hs1:starEach [e,.Name T pt] X.env=(false,eval e X.env) :: starEach [.Name T pt] X.env) (hs2:starEach [.Name T pt] X.env=(false,eval (.Name T pt) X.env) :: starEach [] X.env) (hpl:(backTo pos (starEach [.Name T pt] X.env)).any (·.1)=false) :
  PE X (.Call (.Name "isinstance" px) [e,.Name T pt] [] pos) (tF K p ds ds1 3 (e1 (aC n) f)):=by
 subst hK;refine (kf rh hg hm boot_isinstance (eo he (eo (Ae (v:=.ty n) hgT hmT hbT rfl hnT hdT) pa_nil hs2) hs1) (by decide) (by decide) hs1 hpl).imp fun σ H Q h=>?_;obtain ⟨Ox,en,R,t,en',e,hf,k⟩:=h;unfold e1 at hf;obtain ⟨⟨t1,en1⟩,h1,hf⟩:=zaa.mp hf;obtain ⟨t',h3,hf⟩:=zab.mp hf;cases hf;unfold aC at h3;by_cases hX:isX t1=true
 ·rw [if_pos hX] at h3; cases h3
 rw [if_neg hX] at h3;cases h3;refine ⟨Ox,en,R,t1,en1,e,h1,fun v H' R' F P o=>?_⟩;exact ⟨v,n,Own R' Ox,t1,rfl,Ow.letgo P (fun _ z=>z) o,Bool.eq_false_iff.mpr hX,hT,k _ H' R' NoA (P.less fun _ z=>z.elim) rfl⟩
end
mutual
def peq:D->D->Bool
 | .none,.none=>true
 | .bool a,.bool b=>a == b
 | .bool a,.int b=>(if a then (1:Int) else 0) == b
 | .int a,.bool b=>a == (if b then (1:Int) else 0)
 | .int a,.int b=>a == b
 | .str a,.str b=>a == b
 | .list a,.list b=>dX a b
 | .tuple a,.tuple b=>dX a b
 | _,_=>false
def dX:List D->List D->Bool
 | [],[]=>true
 | a :: r,b :: s=>peq a b && dX r s
 | _,_=>false
end
mutual
def aw:D->Bool
 | .dict _=>false
 | .list ts=>aL ts
 | .tuple ts=>aL ts
 | _=>true
def aL:List D->Bool
 | []=>true
 | t :: r=>aw t && aL r
end
mutual
theorem ke:∀ a:D,aw a=true->peq a a=true
 | .none,_=>rfl
 | .bool b,_=>by cases b <;> rfl
 | .int i,_=>by simp [peq]
 | .str i,_=>by simp [peq]
 | .list ts,h=>by simp only [peq]; exact jc ts (by simpa [aw] using h)
 | .tuple ts,h=>by simp only [peq]; exact jc ts (by simpa [aw] using h)
 | .dict _,h=>by simp [aw] at h
theorem jc:∀ a:List D,aL a=true->dX a a=true
 | [],_=>rfl
 | t :: r,h=>by
  have h':aw t=true/\aL r=true:=by simpa [aL] using h
  simp only [dX,ke t h'.1,jc r h'.2,Bool.and_self]
end
mutual
def e7:D->Nat
 | .list ts=>cz ts+1
 | .tuple ts=>cz ts+1
 | _=>0
def cz:List D->Nat
 | []=>0
 | t :: r=>max (e7 t) (cz r)
end
def jn:∀ {ts:List D} {i:Nat} {t:D},ts[i]?=some t->e7 t<=cz ts
 | [],_,_,h=>by simp at h
 | u :: r,i,t,h=>by
  simp only [cz];cases i with
  | zero=>simp at h; subst h; exact Nat.le_max_left _ _
  | succ i=>exact zau (jn (by simpa using h)) (Nat.le_max_right _ _)
def dO:∀ {ts:List D} {i:Nat} {t:D},aL ts=true->ts[i]?=some t->aw t=true
 | [],_,_,_,h=>by simp at h
 | u :: r,i,t,hn,h=>by
  have h':aw u=true/\aL r=true:=by simpa [aL] using hn
  cases i with
  | zero=>simp at h; subst h; exact h'.1
  | succ i=>exact dO h'.2 (by simpa using h)
def kc:∀ {a b:List D},a.length≠b.length->dX a b=false
 | [],[],h=>absurd rfl h
 | [],_ :: _,_=>rfl
 | _ :: _,[],_=>rfl
 | a :: r,b :: s,h=>by
  simp only [dX,kc (a:=r) (b:=s) (fun z=>h (by rw [zac,zac,z])),Bool.and_false]
def eAt (a b:List D) (j:Nat):Bool:=match a[j]?,b[j]? with
 | some x,some y=>peq x y
 | _,_=>true
def lU (n:Nat) (f:Nat->Bool):(List.range (n+1)).all f=(f 0 && (List.range n).all fun j=>f (j+1)):=by
 rw [List.range_succ_eq_map,List.all_cons,List.all_map];rfl
def kd:∀ {a b:List D},a.length=b.length->(List.range a.length).all (eAt a b)=dX a b
 | [],[],_=>rfl
 | a :: r,b :: s,h=>by
  rw [zac,lU];have e:(List.range r.length).all (fun j=>eAt (a :: r) (b :: s) (j+1))=(List.range r.length).all (eAt r s):=by
   congr 1
  rw [e,kd (by simpa using h)];rfl
 | [],_ :: _,h=>by simp at h
 | _ :: _,[],h=>by simp at h
section
open PySem.SeqAt
variable {X:Cx} {pins:List (Addr × Obj)} {σ:St} {H:Hp} {s:Shared} {O:AS}
def zx {p:Addr} {vs ws:List V} (I:Inv X pins σ H s) (h:SqL X.K H p vs) (g:SqT X.K H p ws):False:=by
 obtain ⟨its,_,p1,_⟩:=I.list h;obtain ⟨its2,_,p2,_⟩:=I.tuple g;exact ne_of_list_tuple p1.isList (show s.heap.IsTuple p its2.toArray from p2) rfl
def Dy {p:Addr} {vs:List V} {ks:List (List Key × V)} (I:Inv X pins σ H s) (h:SqL X.K H p vs) (g:H p=some (.dT ks)):False:=by
 obtain ⟨its,_,⟨o,n,e1,e2,_⟩,_⟩:=I.list h;obtain ⟨_,_,_,_,o',_,_,g1,g2,_⟩:=zK I.hok g;rw [e1] at g1;cases g1;rw [g2.1] at e2;simp at e2
def Fh {p:Addr} {vs:List V} {ks:List (Key × V)} (I:Inv X pins σ H s) (h:SqL X.K H p vs) (g:H p=some (.dK ks)):False:=by
 obtain ⟨its,_,⟨o,n,e1,e2,_⟩,_⟩:=I.list h;obtain ⟨_,_,_,_,o',_,_,g1,g2,_⟩:=pP I.hok g;rw [e1] at g1;cases g1;rw [g2.1] at e2;simp at e2
mutual
theorem Ow.inj (I:Inv X pins σ H s):∀ (a b:D) {x:V},Ow X.K O H a 0 x NoA->Ow X.K O H b 0 x NoA->aw a=true->a=b
 | .none,b,_,h,g,_=>by
  cases (show _=_ from h);cases b with
  | none=>rfl
  | list ts=>obtain ⟨_,_,z,_⟩:=g; cases z
  | tuple ts=>obtain ⟨_,_,z,_⟩:=g; cases z
  | dict ts=>obtain ⟨_,_,z,_⟩:=g; cases z
  | bool c=>cases (show V.non=V.bl c from g)
  | int c=>cases (show V.non=V.int c from g)
  | str c=>cases (show V.non=V.str c from g)
 | .bool c,b,_,h,g,_=>by
  cases (show _=_ from h);cases b with
  | none=>cases (show V.bl c=V.non from g)
  | list ts=>obtain ⟨_,_,z,_⟩:=g; cases z
  | tuple ts=>obtain ⟨_,_,z,_⟩:=g; cases z
  | dict ts=>obtain ⟨_,_,z,_⟩:=g; cases z
  | bool c'=>cases (show V.bl c=V.bl c' from g); rfl
  | int c'=>cases (show V.bl c=V.int c' from g)
  | str c'=>cases (show V.bl c=V.str c' from g)
 | .int c,b,_,h,g,_=>by
  cases (show _=_ from h);cases b with
  | none=>cases (show V.int c=V.non from g)
  | list ts=>obtain ⟨_,_,z,_⟩:=g; cases z
  | tuple ts=>obtain ⟨_,_,z,_⟩:=g; cases z
  | dict ts=>obtain ⟨_,_,z,_⟩:=g; cases z
  | bool c'=>cases (show V.int c=V.bl c' from g)
  | int c'=>cases (show V.int c=V.int c' from g); rfl
  | str c'=>cases (show V.int c=V.str c' from g)
 | .str c,b,_,h,g,_=>by
  cases (show _=_ from h);cases b with
  | none=>cases (show V.str c=V.non from g)
  | list ts=>obtain ⟨_,_,z,_⟩:=g; cases z
  | tuple ts=>obtain ⟨_,_,z,_⟩:=g; cases z
  | dict ts=>obtain ⟨_,_,z,_⟩:=g; cases z
  | bool c'=>cases (show V.str c=V.bl c' from g)
  | int c'=>cases (show V.str c=V.int c' from g)
  | str c'=>cases (show V.str c=V.str c' from g); rfl
 | .list ts,b,_,h,g,hn=>by
  obtain ⟨p,vs,rfl,fz,w⟩:=h.lst0;cases b with
  | none=>cases (show V.ref p=V.non from g)
  | bool c'=>cases (show V.ref p=V.bl c' from g)
  | int c'=>cases (show V.ref p=V.int c' from g)
  | str c'=>cases (show V.ref p=V.str c' from g)
  | list us =>
   obtain ⟨p',vs',e,fz',w'⟩:=g.lst0;cases e
   have:=I.list_inj fz.sq fz'.sq;subst this;rw [Ows.inj I ts us w w' (by simpa [aw] using hn)]
  | tuple us =>
   obtain ⟨p',vs',e,fz',w'⟩:=g.tup0;cases e;exact (zx I fz.sq fz'.sq).elim
  | dict us =>
   obtain ⟨p',vs',e,⟨_,g1,_⟩ | ⟨z,_⟩ | ⟨_,⟨_,_,_,g1,_⟩ | ⟨_,C,_,_,g1,_⟩⟩⟩:=g
   ·cases e;exact (Fh I fz.sq g1).elim
   ·exact absurd rfl z
   ·cases e;exact (Dy I fz.sq g1).elim
   ·cases e;obtain ⟨its,rv,⟨o,n,e1,e2,_⟩,_⟩:=I.list fz.sq;obtain ⟨⟨o',x1,x2,_⟩,_⟩:=(show ObjOk X.prog X.w H s.heap p (.ext (EL p C)) from I.hok p _ g1);rw [e1] at x1;cases x1;rw [e2] at x2;cases x2
 | .tuple ts,b,_,h,g,hn=>by
  obtain ⟨p,vs,rfl,fz,w⟩:=h.tup0;cases b with
  | none=>cases (show V.ref p=V.non from g)
  | bool c'=>cases (show V.ref p=V.bl c' from g)
  | int c'=>cases (show V.ref p=V.int c' from g)
  | str c'=>cases (show V.ref p=V.str c' from g)
  | tuple us =>
   obtain ⟨p',vs',e,fz',w'⟩:=g.tup0;cases e
   have:=fz.1.symm.trans fz'.1;cases this;rw [Ows.inj I ts us w w' (by simpa [aw] using hn)]
  | list us =>
   obtain ⟨p',vs',e,fz',w'⟩:=g.lst0;cases e;exact (zx I fz'.sq fz.sq).elim
  | dict us =>
   obtain ⟨p',vs',e,⟨_,g1,_⟩ | ⟨z,_⟩ | ⟨_,⟨_,_,_,g1,_⟩ | ⟨_,C,_,_,g1,_⟩⟩⟩:=g
   ·cases e;rw [fz.1] at g1;cases g1
   ·exact absurd rfl z
   ·cases e;rw [fz.1] at g1;cases g1
   ·cases e;rw [fz.1] at g1;cases g1
 | .dict _,_,_,_,_,hn=>by simp [aw] at hn
theorem Ows.inj (I:Inv X pins σ H s):∀ (a b:List D) {x:List V},Ows X.K O H a 0 x NoA->Ows X.K O H b 0 x NoA->aL a=true->a=b
 | [],b,_,h,g,_=>by
  cases (show _=_ from h);cases b with
  | nil=>rfl
  | cons u us=>obtain ⟨_,_,_,_,e,_⟩:=g; cases e
 | t :: ts,b,_,h,g,hn=>by
  obtain ⟨v,r,F1,F2,e,_,_,_,h4,h5⟩:=h;subst e;have hn':aw t=true/\aL ts=true:=by simpa [aL] using hn
  cases b with
  | nil=>cases (show v :: r=[] from g)
  | cons u us =>
   obtain ⟨v',r',G1,G2,e,_,_,_,g4,g5⟩:=g;cases e;rw [Ow.inj I t u (Ow.any0 t h4) (Ow.any0 u g4) hn'.1,Ows.inj I ts us (Ows.any0 ts h5) (Ows.any0 us g5) hn'.2]
end
def nz {A:Around} {ts us:List D} {vs ws:List V} {its its2:List Value} (w:Ows X.K O H ts 0 vs NoA) (w2:Ows X.K O H us 0 ws NoA) (rv:Vals vs its) (rv2:Vals ws its2)
  (ih:∀ (j:Nat) a b x y v u,ts[j]?=some a->us[j]?=some b->Ow X.K O H a 0 x NoA->Ow X.K O H b 0 y NoA->RelV x v->RelV y u->EqAt A s v u (peq a b)) :
  ∀ j (h1:j < its.toArray.size) (h2:j < its2.toArray.size),EqAt A s its.toArray[j] its2.toArray[j] (eAt ts us j):=fun j h1 h2=>by
 have h1':j < its.length:=by simpa using h1
 have h2':j < its2.length:=by simpa using h2
 have l1:=rv.length;have l2:=rv2.length;have m1:=w.len;have m2:=w2.len;have e1:ts[j]?=some ts[j]:=zak (by omega);have e2:us[j]?=some us[j]:=zak (by omega);obtain ⟨x,g1,o1⟩:=w.get e1;obtain ⟨y,g2,o2⟩:=w2.get e2;obtain ⟨u1,f1,q1⟩:=rv.get g1;obtain ⟨u2,f2,q2⟩:=rv2.get g2;have z:=ih j _ _ x y u1 u2 e1 e2 o1 o2 q1 q2;rw [zak h1'] at f1;rw [zak h2'] at f2;have i1:its.toArray[j]=u1:=by simpa using zat f1
 have i2:its2.toArray[j]=u2:=by simpa using zat f2
 rw [i1,i2];unfold eAt;rw [e1,e2];exact z
def pO (I:Inv X pins σ H s):∀ (n:Nat) (a b:D) (A:Around) (x y:V) (v u:Value),e7 a<=n->aw a=true->aw b=true->Ow X.K O H a 0 x NoA->Ow X.K O H b 0 y NoA->RelV x v->RelV y u->A.units+n+1 < cLine ->
  EqAt A s v u (peq a b)/\RcAt A s v u (peq a b)/\RcNeAt A s v u (!peq a b):=by
 intro n
 induction n with
 | zero =>
  intro a b A x y v u hdp hna hnb o1 o2 r1 r2 hun;have hu:A.units < cLine:=by omega
  cases a with
  | none =>
   cases b with
   | none =>
    cases (show x=V.non from o1);cases r1;cases (show y=V.non from o2);cases r2;exact ⟨EqAt.same _,RcAt.none_none,RcNeAt.none_none⟩
   | bool c2 =>
    cases (show x=V.non from o1);cases r1;cases (show y=V.bl c2 from o2);cases r2;exact ⟨EqAt.none_bool _,RcAt.none_bool _,RcNeAt.none_bool _⟩
   | int c2 =>
    cases (show x=V.non from o1);cases r1;cases (show y=V.int c2 from o2);obtain ⟨tk2,rfl⟩:=r2;exact ⟨EqAt.none_int _ _,RcAt.none_int _ _,RcNeAt.none_int _ _⟩
   | str c2 =>
    cases (show x=V.non from o1);cases r1;cases (show y=V.str c2 from o2);obtain ⟨tk2,rfl⟩:=r2;exact ⟨EqAt.none_str _ _,RcAt.none_str _ _,RcNeAt.none_str _ _⟩
   | list c2 =>
    cases (show x=V.non from o1);cases r1;obtain ⟨p2,vs2,rfl,fz2,w2⟩:=o2.lst0;cases r2;obtain ⟨its2,rv2,pl2,_⟩:=I.list fz2.sq;have hl2:=pl2.isList;exact ⟨EqAt.none_list  hl2 hu,RcAt.none_list  hl2 hu,RcNeAt.none_list  hl2 hu⟩
   | tuple c2 =>
    cases (show x=V.non from o1);cases r1;obtain ⟨p2,vs2,rfl,fz2,w2⟩:=o2.tup0;cases r2;obtain ⟨its2,rv2,pl2,_⟩:=I.tuple fz2.sq;have hl2:s.heap.IsTuple p2 its2.toArray:=pl2;exact ⟨EqAt.none_tuple  hl2 hu,RcAt.none_tuple  hl2 hu,RcNeAt.none_tuple  hl2 hu⟩
   | dict c2=>simp [aw] at hnb
  | bool c1 =>
   cases b with
   | none =>
    cases (show x=V.bl c1 from o1);cases r1;cases (show y=V.non from o2);cases r2;exact ⟨EqAt.bool_none _,RcAt.bool_none _,RcNeAt.bool_none _⟩
   | bool c2 =>
    cases (show x=V.bl c1 from o1);cases r1;cases (show y=V.bl c2 from o2);cases r2;exact ⟨EqAt.bool_bool _ _,RcAt.bool_bool _ _,RcNeAt.bool_bool _ _⟩
   | int c2 =>
    cases (show x=V.bl c1 from o1);cases r1;cases (show y=V.int c2 from o2);obtain ⟨tk2,rfl⟩:=r2;exact ⟨EqAt.bool_int _ _ _,RcAt.bool_int _ _ _,RcNeAt.bool_int _ _ _⟩
   | str c2 =>
    cases (show x=V.bl c1 from o1);cases r1;cases (show y=V.str c2 from o2);obtain ⟨tk2,rfl⟩:=r2;exact ⟨EqAt.bool_str _ _ _,RcAt.bool_str _ _ _,RcNeAt.bool_str _ _ _⟩
   | list c2 =>
    cases (show x=V.bl c1 from o1);cases r1;obtain ⟨p2,vs2,rfl,fz2,w2⟩:=o2.lst0;cases r2;obtain ⟨its2,rv2,pl2,_⟩:=I.list fz2.sq;have hl2:=pl2.isList;exact ⟨EqAt.bool_list _ hl2 hu,RcAt.bool_list _ hl2 hu,RcNeAt.bool_list _ hl2 hu⟩
   | tuple c2 =>
    cases (show x=V.bl c1 from o1);cases r1;obtain ⟨p2,vs2,rfl,fz2,w2⟩:=o2.tup0;cases r2;obtain ⟨its2,rv2,pl2,_⟩:=I.tuple fz2.sq;have hl2:s.heap.IsTuple p2 its2.toArray:=pl2;exact ⟨EqAt.bool_tuple _ hl2 hu,RcAt.bool_tuple _ hl2 hu,RcNeAt.bool_tuple _ hl2 hu⟩
   | dict c2=>simp [aw] at hnb
  | int c1 =>
   cases b with
   | none =>
    cases (show x=V.int c1 from o1);obtain ⟨tk1,rfl⟩:=r1;cases (show y=V.non from o2);cases r2;exact ⟨EqAt.int_none _ _,RcAt.int_none _ _,RcNeAt.int_none _ _⟩
   | bool c2 =>
    cases (show x=V.int c1 from o1);obtain ⟨tk1,rfl⟩:=r1;cases (show y=V.bl c2 from o2);cases r2;exact ⟨EqAt.int_bool _ _ _,RcAt.int_bool _ _ _,RcNeAt.int_bool _ _ _⟩
   | int c2 =>
    cases (show x=V.int c1 from o1);obtain ⟨tk1,rfl⟩:=r1;cases (show y=V.int c2 from o2);obtain ⟨tk2,rfl⟩:=r2;exact ⟨EqAt.int_int _ _ _ _,RcAt.int_int _ _ _ _,RcNeAt.int_int _ _ _ _⟩
   | str c2 =>
    cases (show x=V.int c1 from o1);obtain ⟨tk1,rfl⟩:=r1;cases (show y=V.str c2 from o2);obtain ⟨tk2,rfl⟩:=r2;exact ⟨EqAt.int_str _ _ _ _,RcAt.int_str _ _ _ _,RcNeAt.int_str _ _ _ _⟩
   | list c2 =>
    cases (show x=V.int c1 from o1);obtain ⟨tk1,rfl⟩:=r1;obtain ⟨p2,vs2,rfl,fz2,w2⟩:=o2.lst0;cases r2;obtain ⟨its2,rv2,pl2,_⟩:=I.list fz2.sq;have hl2:=pl2.isList;exact ⟨EqAt.int_list _ _ hl2 hu,RcAt.int_list _ _ hl2 hu,RcNeAt.int_list _ _ hl2 hu⟩
   | tuple c2 =>
    cases (show x=V.int c1 from o1);obtain ⟨tk1,rfl⟩:=r1;obtain ⟨p2,vs2,rfl,fz2,w2⟩:=o2.tup0;cases r2;obtain ⟨its2,rv2,pl2,_⟩:=I.tuple fz2.sq;have hl2:s.heap.IsTuple p2 its2.toArray:=pl2;exact ⟨EqAt.int_tuple _ _ hl2 hu,RcAt.int_tuple _ _ hl2 hu,RcNeAt.int_tuple _ _ hl2 hu⟩
   | dict c2=>simp [aw] at hnb
  | str c1 =>
   cases b with
   | none =>
    cases (show x=V.str c1 from o1);obtain ⟨tk1,rfl⟩:=r1;cases (show y=V.non from o2);cases r2;exact ⟨EqAt.str_none _ _,RcAt.str_none _ _,RcNeAt.str_none _ _⟩
   | bool c2 =>
    cases (show x=V.str c1 from o1);obtain ⟨tk1,rfl⟩:=r1;cases (show y=V.bl c2 from o2);cases r2;exact ⟨EqAt.str_bool _ _ _,RcAt.str_bool _ _ _,RcNeAt.str_bool _ _ _⟩
   | int c2 =>
    cases (show x=V.str c1 from o1);obtain ⟨tk1,rfl⟩:=r1;cases (show y=V.int c2 from o2);obtain ⟨tk2,rfl⟩:=r2;exact ⟨EqAt.str_int _ _ _ _,RcAt.str_int _ _ _ _,RcNeAt.str_int _ _ _ _⟩
   | str c2 =>
    cases (show x=V.str c1 from o1);obtain ⟨tk1,rfl⟩:=r1;cases (show y=V.str c2 from o2);obtain ⟨tk2,rfl⟩:=r2;exact ⟨EqAt.str_str _ _ _ _,RcAt.str_str _ _ _ _,RcNeAt.str_str _ _ _ _⟩
   | list c2 =>
    cases (show x=V.str c1 from o1);obtain ⟨tk1,rfl⟩:=r1;obtain ⟨p2,vs2,rfl,fz2,w2⟩:=o2.lst0;cases r2;obtain ⟨its2,rv2,pl2,_⟩:=I.list fz2.sq;have hl2:=pl2.isList;exact ⟨EqAt.str_list _ _ hl2 hu,RcAt.str_list _ _ hl2 hu,RcNeAt.str_list _ _ hl2 hu⟩
   | tuple c2 =>
    cases (show x=V.str c1 from o1);obtain ⟨tk1,rfl⟩:=r1;obtain ⟨p2,vs2,rfl,fz2,w2⟩:=o2.tup0;cases r2;obtain ⟨its2,rv2,pl2,_⟩:=I.tuple fz2.sq;have hl2:s.heap.IsTuple p2 its2.toArray:=pl2;exact ⟨EqAt.str_tuple _ _ hl2 hu,RcAt.str_tuple _ _ hl2 hu,RcNeAt.str_tuple _ _ hl2 hu⟩
   | dict c2=>simp [aw] at hnb
  | list c1 =>
   simp only [e7] at hdp;omega
  | tuple c1 =>
   simp only [e7] at hdp;omega
  | dict c1=>simp [aw] at hna
 | succ n ih =>
  intro a b A x y v u hdp hna hnb o1 o2 r1 r2 hun;have hu:A.units < cLine:=by omega
  have hu1:A.in1.units+n+1 < cLine:=by
   show A.units+1+n+1 < cLine;omega
  cases a with
  | none =>
   cases b with
   | none =>
    cases (show x=V.non from o1);cases r1;cases (show y=V.non from o2);cases r2;exact ⟨EqAt.same _,RcAt.none_none,RcNeAt.none_none⟩
   | bool c2 =>
    cases (show x=V.non from o1);cases r1;cases (show y=V.bl c2 from o2);cases r2;exact ⟨EqAt.none_bool _,RcAt.none_bool _,RcNeAt.none_bool _⟩
   | int c2 =>
    cases (show x=V.non from o1);cases r1;cases (show y=V.int c2 from o2);obtain ⟨tk2,rfl⟩:=r2;exact ⟨EqAt.none_int _ _,RcAt.none_int _ _,RcNeAt.none_int _ _⟩
   | str c2 =>
    cases (show x=V.non from o1);cases r1;cases (show y=V.str c2 from o2);obtain ⟨tk2,rfl⟩:=r2;exact ⟨EqAt.none_str _ _,RcAt.none_str _ _,RcNeAt.none_str _ _⟩
   | list c2 =>
    cases (show x=V.non from o1);cases r1;obtain ⟨p2,vs2,rfl,fz2,w2⟩:=o2.lst0;cases r2;obtain ⟨its2,rv2,pl2,_⟩:=I.list fz2.sq;have hl2:=pl2.isList;exact ⟨EqAt.none_list  hl2 hu,RcAt.none_list  hl2 hu,RcNeAt.none_list  hl2 hu⟩
   | tuple c2 =>
    cases (show x=V.non from o1);cases r1;obtain ⟨p2,vs2,rfl,fz2,w2⟩:=o2.tup0;cases r2;obtain ⟨its2,rv2,pl2,_⟩:=I.tuple fz2.sq;have hl2:s.heap.IsTuple p2 its2.toArray:=pl2;exact ⟨EqAt.none_tuple  hl2 hu,RcAt.none_tuple  hl2 hu,RcNeAt.none_tuple  hl2 hu⟩
   | dict c2=>simp [aw] at hnb
  | bool c1 =>
   cases b with
   | none =>
    cases (show x=V.bl c1 from o1);cases r1;cases (show y=V.non from o2);cases r2;exact ⟨EqAt.bool_none _,RcAt.bool_none _,RcNeAt.bool_none _⟩
   | bool c2 =>
    cases (show x=V.bl c1 from o1);cases r1;cases (show y=V.bl c2 from o2);cases r2;exact ⟨EqAt.bool_bool _ _,RcAt.bool_bool _ _,RcNeAt.bool_bool _ _⟩
   | int c2 =>
    cases (show x=V.bl c1 from o1);cases r1;cases (show y=V.int c2 from o2);obtain ⟨tk2,rfl⟩:=r2;exact ⟨EqAt.bool_int _ _ _,RcAt.bool_int _ _ _,RcNeAt.bool_int _ _ _⟩
   | str c2 =>
    cases (show x=V.bl c1 from o1);cases r1;cases (show y=V.str c2 from o2);obtain ⟨tk2,rfl⟩:=r2;exact ⟨EqAt.bool_str _ _ _,RcAt.bool_str _ _ _,RcNeAt.bool_str _ _ _⟩
   | list c2 =>
    cases (show x=V.bl c1 from o1);cases r1;obtain ⟨p2,vs2,rfl,fz2,w2⟩:=o2.lst0;cases r2;obtain ⟨its2,rv2,pl2,_⟩:=I.list fz2.sq;have hl2:=pl2.isList;exact ⟨EqAt.bool_list _ hl2 hu,RcAt.bool_list _ hl2 hu,RcNeAt.bool_list _ hl2 hu⟩
   | tuple c2 =>
    cases (show x=V.bl c1 from o1);cases r1;obtain ⟨p2,vs2,rfl,fz2,w2⟩:=o2.tup0;cases r2;obtain ⟨its2,rv2,pl2,_⟩:=I.tuple fz2.sq;have hl2:s.heap.IsTuple p2 its2.toArray:=pl2;exact ⟨EqAt.bool_tuple _ hl2 hu,RcAt.bool_tuple _ hl2 hu,RcNeAt.bool_tuple _ hl2 hu⟩
   | dict c2=>simp [aw] at hnb
  | int c1 =>
   cases b with
   | none =>
    cases (show x=V.int c1 from o1);obtain ⟨tk1,rfl⟩:=r1;cases (show y=V.non from o2);cases r2;exact ⟨EqAt.int_none _ _,RcAt.int_none _ _,RcNeAt.int_none _ _⟩
   | bool c2 =>
    cases (show x=V.int c1 from o1);obtain ⟨tk1,rfl⟩:=r1;cases (show y=V.bl c2 from o2);cases r2;exact ⟨EqAt.int_bool _ _ _,RcAt.int_bool _ _ _,RcNeAt.int_bool _ _ _⟩
   | int c2 =>
    cases (show x=V.int c1 from o1);obtain ⟨tk1,rfl⟩:=r1;cases (show y=V.int c2 from o2);obtain ⟨tk2,rfl⟩:=r2;exact ⟨EqAt.int_int _ _ _ _,RcAt.int_int _ _ _ _,RcNeAt.int_int _ _ _ _⟩
   | str c2 =>
    cases (show x=V.int c1 from o1);obtain ⟨tk1,rfl⟩:=r1;cases (show y=V.str c2 from o2);obtain ⟨tk2,rfl⟩:=r2;exact ⟨EqAt.int_str _ _ _ _,RcAt.int_str _ _ _ _,RcNeAt.int_str _ _ _ _⟩
   | list c2 =>
    cases (show x=V.int c1 from o1);obtain ⟨tk1,rfl⟩:=r1;obtain ⟨p2,vs2,rfl,fz2,w2⟩:=o2.lst0;cases r2;obtain ⟨its2,rv2,pl2,_⟩:=I.list fz2.sq;have hl2:=pl2.isList;exact ⟨EqAt.int_list _ _ hl2 hu,RcAt.int_list _ _ hl2 hu,RcNeAt.int_list _ _ hl2 hu⟩
   | tuple c2 =>
    cases (show x=V.int c1 from o1);obtain ⟨tk1,rfl⟩:=r1;obtain ⟨p2,vs2,rfl,fz2,w2⟩:=o2.tup0;cases r2;obtain ⟨its2,rv2,pl2,_⟩:=I.tuple fz2.sq;have hl2:s.heap.IsTuple p2 its2.toArray:=pl2;exact ⟨EqAt.int_tuple _ _ hl2 hu,RcAt.int_tuple _ _ hl2 hu,RcNeAt.int_tuple _ _ hl2 hu⟩
   | dict c2=>simp [aw] at hnb
  | str c1 =>
   cases b with
   | none =>
    cases (show x=V.str c1 from o1);obtain ⟨tk1,rfl⟩:=r1;cases (show y=V.non from o2);cases r2;exact ⟨EqAt.str_none _ _,RcAt.str_none _ _,RcNeAt.str_none _ _⟩
   | bool c2 =>
    cases (show x=V.str c1 from o1);obtain ⟨tk1,rfl⟩:=r1;cases (show y=V.bl c2 from o2);cases r2;exact ⟨EqAt.str_bool _ _ _,RcAt.str_bool _ _ _,RcNeAt.str_bool _ _ _⟩
   | int c2 =>
    cases (show x=V.str c1 from o1);obtain ⟨tk1,rfl⟩:=r1;cases (show y=V.int c2 from o2);obtain ⟨tk2,rfl⟩:=r2;exact ⟨EqAt.str_int _ _ _ _,RcAt.str_int _ _ _ _,RcNeAt.str_int _ _ _ _⟩
   | str c2 =>
    cases (show x=V.str c1 from o1);obtain ⟨tk1,rfl⟩:=r1;cases (show y=V.str c2 from o2);obtain ⟨tk2,rfl⟩:=r2;exact ⟨EqAt.str_str _ _ _ _,RcAt.str_str _ _ _ _,RcNeAt.str_str _ _ _ _⟩
   | list c2 =>
    cases (show x=V.str c1 from o1);obtain ⟨tk1,rfl⟩:=r1;obtain ⟨p2,vs2,rfl,fz2,w2⟩:=o2.lst0;cases r2;obtain ⟨its2,rv2,pl2,_⟩:=I.list fz2.sq;have hl2:=pl2.isList;exact ⟨EqAt.str_list _ _ hl2 hu,RcAt.str_list _ _ hl2 hu,RcNeAt.str_list _ _ hl2 hu⟩
   | tuple c2 =>
    cases (show x=V.str c1 from o1);obtain ⟨tk1,rfl⟩:=r1;obtain ⟨p2,vs2,rfl,fz2,w2⟩:=o2.tup0;cases r2;obtain ⟨its2,rv2,pl2,_⟩:=I.tuple fz2.sq;have hl2:s.heap.IsTuple p2 its2.toArray:=pl2;exact ⟨EqAt.str_tuple _ _ hl2 hu,RcAt.str_tuple _ _ hl2 hu,RcNeAt.str_tuple _ _ hl2 hu⟩
   | dict c2=>simp [aw] at hnb
  | list c1 =>
   cases b with
   | none =>
    obtain ⟨p1,vs1,rfl,fz1,w1⟩:=o1.lst0;cases r1;obtain ⟨its1,rv1,pl1,_⟩:=I.list fz1.sq;have hl1:=pl1.isList;cases (show y=V.non from o2);cases r2;exact ⟨EqAt.list_none  hl1 hu,RcAt.list_none  hl1 hu,RcNeAt.list_none  hl1 hu⟩
   | bool c2 =>
    obtain ⟨p1,vs1,rfl,fz1,w1⟩:=o1.lst0;cases r1;obtain ⟨its1,rv1,pl1,_⟩:=I.list fz1.sq;have hl1:=pl1.isList;cases (show y=V.bl c2 from o2);cases r2;exact ⟨EqAt.list_bool _ hl1 hu,RcAt.list_bool _ hl1 hu,RcNeAt.list_bool _ hl1 hu⟩
   | int c2 =>
    obtain ⟨p1,vs1,rfl,fz1,w1⟩:=o1.lst0;cases r1;obtain ⟨its1,rv1,pl1,_⟩:=I.list fz1.sq;have hl1:=pl1.isList;cases (show y=V.int c2 from o2);obtain ⟨tk2,rfl⟩:=r2;exact ⟨EqAt.list_int _ _ hl1 hu,RcAt.list_int _ _ hl1 hu,RcNeAt.list_int _ _ hl1 hu⟩
   | str c2 =>
    obtain ⟨p1,vs1,rfl,fz1,w1⟩:=o1.lst0;cases r1;obtain ⟨its1,rv1,pl1,_⟩:=I.list fz1.sq;have hl1:=pl1.isList;cases (show y=V.str c2 from o2);obtain ⟨tk2,rfl⟩:=r2;exact ⟨EqAt.list_str _ _ hl1 hu,RcAt.list_str _ _ hl1 hu,RcNeAt.list_str _ _ hl1 hu⟩
   | list c2 =>
    obtain ⟨p1,vs1,rfl,fz1,w1⟩:=o1.lst0;cases r1;obtain ⟨its1,rv1,pl1,_⟩:=I.list fz1.sq;have hl1:=pl1.isList;obtain ⟨p2,vs2,rfl,fz2,w2⟩:=o2.lst0;cases r2;obtain ⟨its2,rv2,pl2,_⟩:=I.list fz2.sq;have hl2:=pl2.isList;have dl:cz c1<=n:=by simp only [e7] at hdp; omega
    have nd1:aL c1=true:=by simpa [aw] using hna
    have nd2:aL c2=true:=by simpa [aw] using hnb
    have el:=nz (A:=A.in1) w1 w2 rv1 rv2 fun j a b x y v u e1 e2 q1 q2 q3 q4=>(ih a b A.in1 x y v u (zau (jn e1) dl) (dO nd1 e1) (dO nd2 e2) q1 q2 q3 q4 hu1).1;have l1:=rv1.length;have l2:=rv2.length;have m1:=w1.len;have m2:=w2.len;have rc:RcAt A s (.ref p1) (.ref p2) (dX c1 c2)/\RcNeAt A s (.ref p1) (.ref p2) (!dX c1 c2):=by
     by_cases hz:c1.length=c2.length
     ·have hs1:its1.toArray.size=its2.toArray.size:=by rw [zai,zai]; omega
      have hs2:its1.toArray.size=c1.length:=by rw [zai]; omega
      have z1:=RcAt.lists hl1 hl2 hs1 hu el;have z2:=RcNeAt.lists hl1 hl2 hs1 hu el;rw [hs2,kd hz] at z1 z2;exact ⟨z1,z2⟩
     ·have hs1:(its1.toArray.size != its2.toArray.size)=true:=by rw [zai,zai,bne_iff_ne]; omega
      rw [kc hz];exact ⟨RcAt.lists_lengths hl1 hl2 hs1 hu,RcNeAt.lists_lengths hl1 hl2 hs1 hu⟩
    have pe:peq (.list c1) (.list c2)=dX c1 c2:=by simp only [peq]
    refine ⟨?_,by rw [pe]; exact rc.1,by rw [pe]; exact rc.2⟩;by_cases hp:p1=p2
    ·subst hp
     have:=Ow.inj I _ _ o1 o2 hna;cases this;rw [ke _ hna];exact EqAt.same _
    ·rw [pe];exact EqAt.of_refs hp rc.1
   | tuple c2 =>
    obtain ⟨p1,vs1,rfl,fz1,w1⟩:=o1.lst0;cases r1;obtain ⟨its1,rv1,pl1,_⟩:=I.list fz1.sq;have hl1:=pl1.isList;obtain ⟨p2,vs2,rfl,fz2,w2⟩:=o2.tup0;cases r2;obtain ⟨its2,rv2,pl2,_⟩:=I.tuple fz2.sq;have hl2:s.heap.IsTuple p2 its2.toArray:=pl2;exact ⟨EqAt.list_tuple hl1 hl2 hu,RcAt.list_tuple hl1 hl2 hu,RcNeAt.list_tuple hl1 hl2 hu⟩
   | dict c2=>simp [aw] at hnb
  | tuple c1 =>
   cases b with
   | none =>
    obtain ⟨p1,vs1,rfl,fz1,w1⟩:=o1.tup0;cases r1;obtain ⟨its1,rv1,pl1,_⟩:=I.tuple fz1.sq;have hl1:s.heap.IsTuple p1 its1.toArray:=pl1;cases (show y=V.non from o2);cases r2;exact ⟨EqAt.tuple_none  hl1 hu,RcAt.tuple_none  hl1 hu,RcNeAt.tuple_none  hl1 hu⟩
   | bool c2 =>
    obtain ⟨p1,vs1,rfl,fz1,w1⟩:=o1.tup0;cases r1;obtain ⟨its1,rv1,pl1,_⟩:=I.tuple fz1.sq;have hl1:s.heap.IsTuple p1 its1.toArray:=pl1;cases (show y=V.bl c2 from o2);cases r2;exact ⟨EqAt.tuple_bool _ hl1 hu,RcAt.tuple_bool _ hl1 hu,RcNeAt.tuple_bool _ hl1 hu⟩
   | int c2 =>
    obtain ⟨p1,vs1,rfl,fz1,w1⟩:=o1.tup0;cases r1;obtain ⟨its1,rv1,pl1,_⟩:=I.tuple fz1.sq;have hl1:s.heap.IsTuple p1 its1.toArray:=pl1;cases (show y=V.int c2 from o2);obtain ⟨tk2,rfl⟩:=r2;exact ⟨EqAt.tuple_int _ _ hl1 hu,RcAt.tuple_int _ _ hl1 hu,RcNeAt.tuple_int _ _ hl1 hu⟩
   | str c2 =>
    obtain ⟨p1,vs1,rfl,fz1,w1⟩:=o1.tup0;cases r1;obtain ⟨its1,rv1,pl1,_⟩:=I.tuple fz1.sq;have hl1:s.heap.IsTuple p1 its1.toArray:=pl1;cases (show y=V.str c2 from o2);obtain ⟨tk2,rfl⟩:=r2;exact ⟨EqAt.tuple_str _ _ hl1 hu,RcAt.tuple_str _ _ hl1 hu,RcNeAt.tuple_str _ _ hl1 hu⟩
   | list c2 =>
    obtain ⟨p1,vs1,rfl,fz1,w1⟩:=o1.tup0;cases r1;obtain ⟨its1,rv1,pl1,_⟩:=I.tuple fz1.sq;have hl1:s.heap.IsTuple p1 its1.toArray:=pl1;obtain ⟨p2,vs2,rfl,fz2,w2⟩:=o2.lst0;cases r2;obtain ⟨its2,rv2,pl2,_⟩:=I.list fz2.sq;have hl2:=pl2.isList;exact ⟨EqAt.tuple_list hl1 hl2 hu,RcAt.tuple_list hl1 hl2 hu,RcNeAt.tuple_list hl1 hl2 hu⟩
   | tuple c2 =>
    obtain ⟨p1,vs1,rfl,fz1,w1⟩:=o1.tup0;cases r1;obtain ⟨its1,rv1,pl1,_⟩:=I.tuple fz1.sq;have hl1:s.heap.IsTuple p1 its1.toArray:=pl1;obtain ⟨p2,vs2,rfl,fz2,w2⟩:=o2.tup0;cases r2;obtain ⟨its2,rv2,pl2,_⟩:=I.tuple fz2.sq;have hl2:s.heap.IsTuple p2 its2.toArray:=pl2;have dl:cz c1<=n:=by simp only [e7] at hdp; omega
    have nd1:aL c1=true:=by simpa [aw] using hna
    have nd2:aL c2=true:=by simpa [aw] using hnb
    have el:=nz (A:=A.in1) w1 w2 rv1 rv2 fun j a b x y v u e1 e2 q1 q2 q3 q4=>(ih a b A.in1 x y v u (zau (jn e1) dl) (dO nd1 e1) (dO nd2 e2) q1 q2 q3 q4 hu1).1;have l1:=rv1.length;have l2:=rv2.length;have m1:=w1.len;have m2:=w2.len;have rc:RcAt A s (.ref p1) (.ref p2) (dX c1 c2)/\RcNeAt A s (.ref p1) (.ref p2) (!dX c1 c2):=by
     have z1:=RcAt.tuples hl1 hl2 hu el;have z2:=RcNeAt.tuples hl1 hl2 hu el;have ez:((List.range (min its1.toArray.size its2.toArray.size)).all (eAt c1 c2) && its1.toArray.size == its2.toArray.size)=dX c1 c2:=by
      rw [zai,zai];by_cases hz:c1.length=c2.length
      ·have h3:its1.length=its2.length:=by omega
       have h4:min its1.length its2.length=c1.length:=by omega
       rw [h4,kd hz,h3,beq_self_eq_true,Bool.and_true]
      ·have h3:(its1.length == its2.length)=false:=by rw [beq_eq_false_iff_ne]; omega
       rw [h3,Bool.and_false,kc hz]
     rw [ez] at z1 z2;exact ⟨z1,z2⟩
    have pe:peq (.tuple c1) (.tuple c2)=dX c1 c2:=by simp only [peq]
    refine ⟨?_,by rw [pe]; exact rc.1,by rw [pe]; exact rc.2⟩;by_cases hp:p1=p2
    ·subst hp
     have:=Ow.inj I _ _ o1 o2 hna;cases this;rw [ke _ hna];exact EqAt.same _
    ·rw [pe];exact EqAt.of_refs hp rc.1
   | dict c2=>simp [aw] at hnb
  | dict c1=>simp [aw] at hna
end
def eqD (a b:D):Option D:=grd (aw a=true/\aw b=true/\e7 a<=60) (.bool (peq a b))
def neD (a b:D):Option D:=grd (aw a=true/\aw b=true/\e7 a<=60) (.bool (!peq a b))
section
variable {X:Cx} {K:PySem.W.Frag}
def gR (hK:X.K=K) (hu:X.A.units+64 < cLine):OpR X (compareOp .Eq) (rF2 K eqD 3):=by
 subst hK;intro pins s σ H x y v u Q I rx ry ⟨O,a,b,t,oa,ob,hd,hg,k⟩;obtain ⟨⟨c1,c2,c3⟩,rfl⟩:=bV hg;exact (pO I 60 a b X.A x y v u c3 c1 c2 oa ob rx ry (by omega)).2.1 X.prog X.w _ _ ⟨.bl _,H,I,rfl,k _ H NoA .refl rfl⟩
def Fu (hK:X.K=K) (hu:X.A.units+64 < cLine):OpR X (compareOp .NotEq) (rF2 K neD 3):=by
 subst hK;intro pins s σ H x y v u Q I rx ry ⟨O,a,b,t,oa,ob,hd,hg,k⟩;obtain ⟨⟨c1,c2,c3⟩,rfl⟩:=bV hg;exact (pO I 60 a b X.A x y v u c3 c1 c2 oa ob rx ry (by omega)).2.2 X.prog X.w _ _ ⟨.bl _,H,I,rfl,k _ H NoA .refl rfl⟩
end
def zQ {K:PySem.W.Frag} {dps:List Nat} {dr n:Nat} {F:List D->Option (D × En)} {vs:List V} {H:Hp} {Q:VK} {E:XK} (hn:dps.length=n) (h:spF K dps dr F vs H Q E):vs.length=n:=by
 obtain ⟨Ox,ts,R,r,outs,e,_⟩:=h
 have:=e.l2;rw [zad] at this;omega
section
variable {X:Cx} {K:PySem.W.Frag} {p:Bool} {J:Jd} {ds ds0 ds1 ds2 ds3 ds':List Nat} {d d' d1 d2 d3:Nat} {a b c e:Expr} {st:Stmt} {f f1 f2 f3:ME} {m:MS} {pos p2:Pos}
def eH (g g':D->D->Option D) (f1 f2 f3:ME):ME:=fun en=>(f1 en).bind fun r=>(f2 r.2).bind fun q=>(g r.1 q.1).bind fun t=>match t with
 | .bool true=>(f3 q.2).bind fun z=>(g' q.1 z.1).map fun t=>(t,z.2)
 | .bool false=>some (.bool false,q.2)
 | _=>none
def AX {g g':D->D->Option D} {σ:St} {H:Hp} {Q:VK} (h:tF K p ds ds1 3 (eH g g' f1 f2 f3) σ H Q) :
  p9 (rF2 K g 3) (rF2 K g' 3) (tF K p ds ds0 d1 f1) (tF K p ds0 ds1 d2 f2) (tF K p ds1 ds1 d3 f3) σ H Q:=by
 obtain ⟨Ox,en,R,t,en',e,hf,k⟩:=h;unfold eH at hf;obtain ⟨⟨t1,en1⟩,h1,hf⟩:=zaa.mp hf;obtain ⟨⟨t2,en2⟩,h2,hf⟩:=zaa.mp hf;obtain ⟨tb,h3,hf⟩:=zaa.mp hf;refine two (p1:=p) (p2:=p) e h1 h2 fun x y H2 R2 F1 F2 P o1 o2=>?_;rw [Bool.and_self] at P;have oy:=Ow.letgo P (fun _=>.inr) o2;refine ⟨Own R2 Ox,t1,t2,tb,Ow.letgo P (fun _=>.inl) o1,oy,P.doms,h3,fun v3 H3 F3 n3 o3=>?_⟩;have P3:=P.fin n3;cases tb with
 | bool bb =>
  refine ⟨bb,o3,?_⟩;cases bb with
  | false =>
   cases hf;exact k _ H3 R2 NoA (P3.less fun _ z=>z.elim) rfl
  | true =>
   obtain ⟨⟨t4,en4⟩,h4,hf⟩:=zaa.mp hf;obtain ⟨t5,h5,hf⟩:=zab.mp hf;cases hf;have P30:=P3.less (F':=NoA) fun _ z=>z.elim;refine ⟨Ox,en2,R2,t4,en4,P30.env0,h4,fun v4 H4 R4 F4 P4 o4=>?_⟩;have P34:=P30.after P4;rw [Bool.and_self] at P34;have oy3:Ow K (Own R2 Ox) H3 t2 0 y NoA:=Ow.mv (G:=NoA) ⟨fun a o q _=>n3.1 a o q,fun a z=>.inl z⟩ t2 (fun _ z=>z) oy;have oy4:Ow K (Own R4 Ox) H4 t2 0 y NoA:=by
    refine Ow.mv (G:=NoA) ⟨fun a o q z=>P4.keep a o q fun i zi=>?_,fun a z=>?_⟩ t2 (fun _ z=>z) oy3
    ·rcases z with z | z
     ·exact z (.inl ⟨i,zi⟩)
     ·exact z
    ·rcases z with z | z
     ·exact (P4.own a (.inr z)).imp .inl id
     ·exact .inl (.inr z)
   exact ⟨Own R4 Ox,t2,t4,_,oy4,Ow.letgo P4 (fun _ z=>z) o4,P4.doms,h5,fun v5 H5 F5 n5 o5=>k v5 H5 R4 F5 (P34.fin n5) (lr ▸ o5)⟩
 | _=>cases hf
def sG {op op':CmpOp} {g g':D->D->Option D} (ho:OpR X (compareOp op) (rF2 K g 3)) (ho':OpR X (compareOp op') (rF2 K g' 3)) (ha:PE X a (tF K p ds ds0 d1 f1)) (hb:PE X b (tF K p ds0 ds1 d2 f2)) (hc:PE X c (tF K p ds1 ds1 d3 f3))
  (hm:lastMarks [op,op'] [b,c]=false):PE X (.Compare a [op,op'] [b,c] pos) (tF K p ds ds1 3 (eH g g' f1 f2 f3)):=(rS ho ho' ha hb hc hm).imp fun _ _ _=>AX
abbrev MO:=En->Option (Option Int × En)
def tFO (K:PySem.W.Frag) (p:Bool) (ds ds':List Nat) (f:MO):TO:=fun σ H Q=>∃ Ox en R o en',EnvOk K ds Ox H σ en R/\f en=some (o,en')/\∀ H' R',Post K p ds' Ox σ H en R en' H' R' NoA->Q o H'
def cE:MO:=fun en=>some (none,en)
def cw (f:ME):MO:=fun en=>(f en).bind fun r=>match r.1 with
 | .int i=>some (some i,r.2)
 | _=>none
def PO.imp {X:Cx} {e:Option Expr} {t t':TO} (h:PO X e t) (hi:∀ σ H Q,t' σ H Q->t σ H Q):PO X e t':=fun pins s σ H Q I hw=>h pins s σ H Q I (hi _ _ _ hw)
def AH:PO X none (tFO K p ds ds cE):=po_none.imp fun σ H Q ⟨Ox,en,R,o,en',e,hf,k⟩=>by
 cases hf;exact k H R (Post.refl e)
def AF (h:PE X e (tF K p ds ds1 d f)):PO X (some e) (tFO K p ds ds1 (cw f)):=(zY h).imp fun σ H Q ⟨Ox,en,R,o,en',e,hf,k⟩=>by
 unfold cw at hf;obtain ⟨⟨t1,en1⟩,h1,hf⟩:=zaa.mp hf;refine ⟨Ox,en,R,t1,en1,e,h1,fun v H' R' F P o=>?_⟩;cases t1 with
 | int i=>cases hf; exact ⟨i,o,k H' R' (P.less fun _ z=>z.elim)⟩
 | _=>cases hf
def rFs (K:PySem.W.Frag) (g:D->Option Int->Option Int->Option D) (d:Nat):V->Option Int->Option Int->Hp->VK->Prop:=fun x lo hi H Q=>∃ (O:AS) (a t:D),Ow K O H a 0 x NoA/\(∀ a,O a->∃ o,H a=some o)/\g a lo hi=some t/\∀ v H' F,NewTo H H' F->Ow K (U F O) H' t d v F->Q v H'
def eSl (g:D->Option Int->Option Int->Option D) (f:ME) (lo hi:MO):ME:=fun en=>(f en).bind fun r=>(lo r.2).bind fun l=>(hi l.2).bind fun h=>(g r.1 l.1 h.1).map fun t=>(t,h.2)
variable {lo hi:MO}
def Ow.past0 {H1 H2:Hp} {R1 R2:Nat->AS} {Ox:AS} {σ:St} {en1 en2:En} {F2:AS} {t:D} {v:V} (P2:Post K p ds2 Ox σ H1 en1 R1 en2 H2 R2 F2) (h:Ow K (Own R1 Ox) H1 t 0 v NoA):Ow K (Own R2 Ox) H2 t 0 v NoA:=by
 refine Ow.mv (G:=NoA) ⟨fun a o q z=>P2.keep a o q fun i zi=>?_,fun a z=>?_⟩ t (fun _ z=>z) h
 ·rcases z with z | z
  ·exact z (.inl ⟨i,zi⟩)
  ·exact z
 ·rcases z with z | z
  ·exact (P2.own a (.inr z)).imp .inl id
  ·exact .inl (.inr z)
def Gf {g:D->Option Int->Option Int->Option D} {σ:St} {H:Hp} {Q:VK} (h:tF K p ds ds3 d (eSl g f lo hi) σ H Q):tSl (rFs K g d) (tF K p ds ds1 d1 f) (tFO K p ds1 ds2 lo) (tFO K p ds2 ds3 hi) σ H Q:=by
 obtain ⟨Ox,en,R,t,en',e,hf,k⟩:=h;unfold eSl at hf;obtain ⟨⟨t1,en1⟩,h1,hf⟩:=zaa.mp hf;obtain ⟨⟨l,en2⟩,h2,hf⟩:=zaa.mp hf;obtain ⟨⟨u,en3⟩,h3,hf⟩:=zaa.mp hf;obtain ⟨t',h4,hf⟩:=zab.mp hf;cases hf;refine ⟨Ox,en,R,t1,en1,e,h1,fun v H1 R1 F1 P1 o1=>?_⟩;have o0:=Ow.letgo P1 (fun _ z=>z) o1;refine ⟨Ox,en1,R1,l,en2,P1.env0,h2,fun H2 R2 P2=>?_⟩;refine ⟨Ox,en2,R2,u,en3,P2.env0,h3,fun H3 R3 P3=>?_⟩;have P:=(P1.after P2).after P3;rw [Bool.and_self,Bool.and_self] at P;exact ⟨Own R3 Ox,t1,t,(o0.past0 P2).past0 P3,P3.doms,h4,fun v4 H4 F4 n4 o4=>k v4 H4 R3 F4 (P.fin n4) (lr ▸ o4)⟩
def SlR.imp {r r':V->Option Int->Option Int->Hp->VK->Prop} (h:SlR X r) (hi:∀ x lo hi H Q,r' x lo hi H Q->r x lo hi H Q):SlR X r':=fun pins s σ H x v vl vu lo hi' sl Q I rx hs pl pu q=>h pins s σ H x v vl vu lo hi' sl Q I rx hs pl pu (hi _ _ _ _ _ q)
def sC {g:D->Option Int->Option Int->Option D} {elo ehi:Option Expr} (hr:SlR X (rFs K g d)) (he:PE X e (tF K p ds ds1 d1 f)) (hl:PO X elo (tFO K p ds1 ds2 lo)) (hu:PO X ehi (tFO K p ds2 ds3 hi)):PE X (.Subscript e (.Slice elo ehi none p2) pos) (tF K p ds ds3 d (eSl g f lo hi)) :=
 (rR hr he hl hu).imp fun _ _ _=>Gf
def bK {α:Type} (xs:List α) (lo hi:Option Int):List α:=(xs.drop (HT.sIx xs.length 0 lo)).take (HT.sIx xs.length xs.length hi - HT.sIx xs.length 0 lo)
def mU:D->Option Int->Option Int->Option D
 | .list ts,lo,hi=>some (.list (bK ts lo hi))
 | _,_,_=>none
def oH (hK:X.K=K):SlR X (rFs K mU 1):=(Gb hK).imp fun x lo hi H Q ⟨O,a,t,oa,hd,hg,k⟩=>by
 cases a with
 | list ts =>
  cases hg;obtain ⟨a,vs,e1,f1,w1⟩:=oa.lst0;refine ⟨a,vs,e1,f1.sq,fun p hp=>?_⟩;have w2:Ows K O H (bK ts lo hi) 0 (h8 vs lo hi) NoA:=by
   unfold bK h8;rw [w1.len];exact (w1.drop _).take _
  exact k _ _ _ (dz hp hd w2).1 (dz hp hd w2).2
 | _=>cases hg
def lP:D->Option Int->Option Int->Option D
 | .str z,lo,hi=>grd (z.length<=sizeLine) (.str ⟨(dM z.cps.toList lo hi).toArray⟩)
 | _,_,_=>none
def k8:SlR X (rFs K lP 3):=sl_str.imp fun x lo hi H Q ⟨O,a,t,oa,hd,hg,k⟩=>by
 cases a with
 | str z =>
  obtain ⟨c,rfl⟩:=bV hg;exact ⟨z,oa,c,k _ H NoA .refl rfl⟩
 | _=>cases hg
end
def kEq:D->D->Bool
 | .int a,.int b=>a == b
 | .str a,.str b=>a == b
 | _,_=>false
def kOf:D->Option Key
 | .int i=>some (.inl i)
 | .str x=>some (.inr x)
 | _=>none
def zM (ks:List (D × D)) (q:D):Option D:=(ks.find? fun kv=>kEq kv.1 q).map (·.2)
def Gi (ks:List (D × D)) (q t:D):List (D × D):=if ks.any (fun kv=>kEq kv.1 q) then ks.map (fun kv=>if kEq kv.1 q then (kv.1,t) else kv) else ks++[(q,t)]
section
variable {K:PySem.W.Frag} {O:AS} {H:Hp} {d:Nat}
def noT:List (D × D)->Bool
 | (.tuple _,_) :: _=>false
 | (.none,_) :: _=>false
 | _=>true
def Ow.dict0 {ks:List (D × D)} {v:V} (hk:noT ks=true) (h:Ow K O H (.dict ks) 0 v NoA):∃ a vs,v=.ref a/\H a=some (.dK vs)/\Owd K O H ks 0 vs NoA:=by
 obtain ⟨a,vs,e,⟨_,h1,_,h2⟩ | ⟨z,_⟩ | ⟨_,⟨kk,b,h1,_⟩ | ⟨cn,C,h1,_⟩⟩⟩:=h
 ·exact ⟨a,vs,e,h1,h2⟩
 ·exact absurd rfl z
 ·rw [h1] at hk;cases hk
 ·rw [h1] at hk;cases hk
end
def jP:ME:=eC (.dict [])
def GQ:D->D->Option D
 | .dict ks,q=>(kOf q).bind fun _=>zM ks q
 | _,_=>none
section
variable {X:Cx} {K:PySem.W.Frag} {p:Bool} {J:Jd} {ds ds0 ds1 ds2 ds':List Nat} {d d' d1 d2:Nat} {a b c e o k:Expr} {f f1 f2 fk fe:ME} {pos px spos:Pos} {i:Nat} {σ:St} {H:Hp} {Q:VK} {Dn:Ends}
def AR:PE X (.Dict [] [] pos) (tF K p ds ds 3 jP):=pe_dnewK.imp fun σ H Q ⟨Ox,en,R,t,en',e,hf,k⟩=>by
 cases hf;intro l hl;have n:NewTo H (upd H l (.dK [])) (fun b=>b=l):=cb hl;exact k (.ref l) _ R _ (Post.new e n.1 n.2) ⟨l,[],rfl,.inr (.inl ⟨by decide,a8,rfl,NoA,fun _ z=>z.elim,rfl⟩)⟩
def Gx (i:Nat) (f:ME):ME:=fun en=>(en[i]?).join.bind fun _=>(f en).bind fun r=>match (r.2[i]?).join with
 | some (.dict ks)=>(kOf r.1).bind fun _=>(zM ks r.1).map fun t=>(t,r.2)
 | _=>none
end
def evP:List (ME × ME)->En->Option (List (D × D) × En)
 | [],en=>some ([],en)
 | (fk,fv) :: r,en=>(fk en).bind fun x=>(fv x.2).bind fun y=>(evP r y.2).bind fun z=>(kOf x.1).map fun _=>((x.1,y.1) :: z.1,z.2)
def DC (ks:List (D × D)):List (D × D):=ks.foldl (fun acc kv=>Gi acc kv.1 kv.2) []
def FS (fs:List (ME × ME)):ME:=fun en=>(evP fs en).bind fun r=>if r.1.length<=15 then some (.dict (DC r.1),r.2) else none
section
variable {X:Cx} {K:PySem.W.Frag} {p:Bool} {J:Jd} {ds ds0 ds1 ds2 ds':List Nat} {d d' d1 d2:Nat} {a b c e o k:Expr} {es:List Expr} {f f1 f2 fk fe:ME} {fa:MA} {sh:Sh} {pos px spos:Pos} {i j:Nat} {σ:St} {H:Hp} {Q:VK} {Dn:Ends}
def GH (i j:Nat) (fa:MA):MS:=fun en=>(fa en).bind fun r=>match r.1 with
 | [.inl a,.inl b]=>some (.nx ((r.2.set i (some a)).set j (some b)))
 | _=>none
end
section
variable {X:Cx} {K:PySem.W.Frag}
end
section
variable {X:Cx} {K:PySem.W.Frag} {O:AS} {H:Hp} {ts us:List D} {vs ws:List V} {x y:V} {d:Nat} {Q:VK}
def EZ (K:PySem.W.Frag):List V->Hp->VK->Prop:=fun xs H Q=>∃ (p:Addr) (ns:List Int),xs=[.ref p]/\SqL K H p (ns.map V.int)/\Q (.int ns.sum) H
def qZ (hc:X.calm=true):CallR X (.builtin "sum") (EZ X.K):=by
 intro pins s σ H xs us Q I r h;obtain ⟨p,ns,rfl,hp,q⟩:=h;obtain ⟨u,rfl,ru⟩:=da r;cases ru;obtain ⟨its,rv,pl,hz⟩:=I.list hp;have hl:its.length=ns.length:=by rw [<- rv.length,zad]
 have hlt:p < s.heap.objs.size:=by
  obtain ⟨o,n,e,_⟩:=id pl;exact zal e
 have hsz:its.toArray.size=ns.length:=by rw [zai,hl]
 refine call_sum_walkAnyS (wpAny_pyIter_list pl.isList ?_);refine ⟨s.heap.objs.size,[s.heap.objs.size,p],[s.heap.objs.size],_,its.toArray.size,fun i v=>its.toArray[i]?=some v,_,fun i=>ns.getD i 0,rfl,(Walks.list (A:=X.A.in1) (show X.A.in1.handled=none from I.ok.hd hc) s.heap.objs.size p (zaw hlt) its.toArray).toS,?_,?_,?_,?_⟩
 ·exact ⟨⟨_,zan _ rfl,rfl,rfl⟩,pl.isList.push _⟩
 ·intro b hb;show b < (s.heap.push _).objs.size;rw [Heap.size_push];have hb':b=s.heap.objs.size\/b=p:=by simpa using hb
  rcases hb' with rfl | rfl
  ·exact Nat.lt_succ_self _
  ·exact Nat.lt_succ_of_lt hlt
 ·intro i v hv;have hv':its[i]?=some v:=by simpa using hv
  have hi:i < ns.length:=by
   rw [<- hl];exact (zah.mp hv').1
  obtain ⟨u,hu,ru⟩:=rv.get (i:=i) (x:=V.int ns[i]) (by rw [zao,zak hi]; rfl);rw [hu] at hv';cases hv';obtain ⟨t,rfl⟩:=ru;refine ⟨t,?_⟩;show Value.int ns[i] t=Value.int (ns.getD i 0) t;rw [List.getD_eq_getElem?_getD,zak hi];rfl
 ·intro s' t' hm;have e:preSum (fun i=>ns.getD i 0) its.toArray.size=ns.sum:=by
   rw [hsz,jY ns ns.length (zav _),List.take_length]
  rw [e];obtain ⟨hh,g,dr,tk,os'⟩:=s';have e1:dr=s.drawn:=hm.drawn;have e2:os'=s.os:=hm.os;have e3:g=s.gens:=hm.gens;subst e1 e2 e3;refine ⟨.int ns.sum,H,I.kept (t':=tk) fun b o z=>hm.heap b o ?_ (zaf _ z),⟨_,rfl⟩,q⟩;intro z';have z'':b=s.heap.objs.size:=by simpa using z'
  exact zaw (zal z) z''
def nA:List D->Option (List Int)
 | []=>some []
 | .int i :: r=>(nA r).map (i :: ·)
 | _ :: _=>none
def m9:∀ {ts:List D} {vs:List V} {bs:List Int},Ows K O H ts 0 vs NoA->nA ts=some bs->vs=bs.map V.int
 | [],_,_,h,hb=>by cases hb; exact h
 | .int b :: r,_,_,h,hb=>by
  obtain ⟨v,w,F1,F2,e,_,_,_,h4,h5⟩:=h;obtain ⟨bs',h6,h7⟩:=zab.mp hb;subst e h7;rw [show v=.int b from h4,m9 (Ows.any0 r h5) h6];rfl
 | .none :: _,_,_,_,hb=>by cases hb
 | .bool _ :: _,_,_,_,hb=>by cases hb
 | .str _ :: _,_,_,_,hb=>by cases hb
 | .list _ :: _,_,_,_,hb=>by cases hb
 | .tuple _ :: _,_,_,_,hb=>by cases hb
 | .dict _ :: _,_,_,_,hb=>by cases hb
def mZ:List D->Option D
 | [.list ts]=>(nA ts).map fun ns=>.int ns.sum
 | _=>none
def Eg (hK:X.K=K) (hc:X.calm=true):CallR X (.builtin "sum") (rFn K mZ 3):=by
 subst hK;refine (qZ hc).imp fun xs H Q ⟨O,as,t,oa,hd,hg,k⟩=>?_
 match as,hg with
 | [.list ts],hg =>
  obtain ⟨ns,h1,rfl⟩:=zab.mp hg;obtain ⟨v,rfl,o⟩:=oa.one;obtain ⟨a,vs,rfl,fz,w⟩:=o.lst0;have e:=m9 w h1;subst e;exact ⟨a,ns,rfl,fz.sq,k _ H NoA .refl rfl⟩
end
section
variable {X:Cx} {K:PySem.W.Frag} {p:Bool} {ds ds1:List Nat} {O:AS} {H:Hp} {σ:St} {d:Nat} {f:ME} {i:Nat} {e:Expr} {Q:VK}
end
section
variable {X:Cx} {K:PySem.W.Frag} {p:Bool} {ds ds1:List Nat} {d:Nat} {fa:MA} {sh:Sh} {O O1:AS} {H0 H:Hp} {ts us:List D} {vs ws:List V} {a b:Addr}
def rG (ts us:List D):List D:=List.zipWith (fun x y=>.tuple [x,y]) ts us
def GF (fa:MA):MI:=fun en=>(fa en).bind fun r=>match r.1 with
 | [.inl (.list ts),.inl (.list us)]=>some (rG ts us,r.2)
 | _=>none
end
section
variable {X:Cx} {K:PySem.W.Frag} {p:Bool} {ds ds1:List Nat} {d1:Nat} {e:Expr} {f:ME}
end
section
variable {X:Cx} {K:PySem.W.Frag} {p p1 p2:Bool} {ds ds1 ds2:List Nat} {d d1:Nat} {e:Expr} {f:ME} {fa:MA} {sh:Sh} {σ:St} {H:Hp} {Q:VK}
def eM (g:Str->List D->Option D) (f:ME) (fa:MA):ME:=fun en=>(f en).bind fun r=>match r.1 with
 | .str z=>(fa r.2).bind fun q=>(bH q.1).bind fun ts=>(g z ts).map fun t=>(t,q.2)
 | _=>none
structure MtF (K:PySem.W.Frag) (r:V->List V->Hp->VK->Prop) (g:Str->List D->Option D):Prop where
 h:∀ {O:AS} {H:Hp} {z:Str} {ts:List D} {xs:List V} {t:D} {Q:VK},Ows K O H ts 0 xs NoA->g z ts=some t->(∀ v,Ow K O H t 3 v NoA->Q v H)->r (.str z) xs H Q
def EH {r:V->List V->Hp->VK->Prop} {g:Str->List D->Option D} (hr:MtF K r g) (hs:bT 0 sh=true) (h:tF K (p1 && p2) ds ds2 3 (eM g f fa) σ H Q):tBM K "str" r (tF K p1 ds ds1 d1 f) (tFA K p2 ds1 ds2 sh fa) σ H Q:=by
 obtain ⟨Ox,en,R,t,en',e,hf,k⟩:=h;unfold eM at hf;obtain ⟨⟨t1,en1⟩,h1,hf⟩:=zaa.mp hf
 dsimp only at hf
 split at hf
 case h_2=>cases hf
 next z =>
 obtain ⟨⟨as,en2⟩,h2,hf⟩:=zaa.mp hf;obtain ⟨ts,h3,hf⟩:=zaa.mp hf;obtain ⟨t',h4,hf⟩:=zab.mp hf;cases hf;refine ⟨Ox,en,R,.str z,en1,e,h1,fun x H1 R1 F1 P1 o1=>?_⟩;have ex:x=.str z:=o1;subst ex;refine ⟨rfl,Ox,en1,R1,as,en2,P1.env0,h2,fun vs H2 R2 F P2 o=>?_⟩;have P:=P1.after P2;obtain ⟨F',s1,s2⟩:=OwA.ows hs h3 o;have o2:Ows K (Own R2 Ox) H2 ts 0 vs F':=s2 _ (fun a z=>z.imp id .inr) fun a z z2=>by
  rcases z2 with ⟨i,z2⟩ | z2
  ·exact absurd (.inl z) (P.env.dx i a z2)
  ·exact absurd z2 (P.fx a z)
 refine hr.h (Ows.any0 ts o2) h4 fun v ov=>k v H2 R2 NoA (P.less fun _ z=>z.elim) ?_;rw [eJ];exact ov
def joinD:Str->List D->Option D
 | sep,[.list ts]=>(strsOf ts).bind fun ys=>if sep.length<=16/\(ys.map (·.length)).sum+ys.length<=1048576 then some (.str (Txt.join sep ys)) else none
 | sep,[.tuple ts]=>(strsOf ts).bind fun ys=>if sep.length<=16/\(ys.map (·.length)).sum+ys.length<=1048576 then some (.str (Txt.join sep ys)) else none
 | _,_=>none
where strsOf:List D->Option (List Str)
 | []=>some []
 | .str z :: r=>(strsOf r).map (z :: ·)
 | _ :: _=>none
def kg {O:AS}:∀ {ts:List D} {ys:List Str} {xs:List V},joinD.strsOf ts=some ys->Ows K O H ts 0 xs NoA->xs=ys.map V.str
 | [],ys,xs,h,o=>by
  cases h;exact o
 | t :: ts,ys,xs,h,o=>by
  obtain ⟨v,r,F1,F2,e,_,_,_,h4,h5⟩:=o;cases t with
  | str z =>
   obtain ⟨ys',h6,rfl⟩:=zab.mp h;have e4:v=.str z:=h4;rw [e,e4,kg h6 (Ows.any0 ts h5)];rfl
  | _=>cases h
def dB:MtF K (zr K) joinD where
 h:=fun {O H z ts xs t Q} o hg q=>by
  unfold joinD at hg;split at hg
  ·next us =>
   obtain ⟨ys,h1,h2⟩:=zaa.mp hg;by_cases hc:z.length<=16/\(ys.map (·.length)).sum+ys.length<=1048576
   case neg=>rw [if_neg hc] at h2; cases h2
   rw [if_pos hc] at h2;cases h2;obtain ⟨v,r,F1,F2,e,_,_,_,h4,h5⟩:=o;have e5:r=[]:=h5;subst e5 e;obtain ⟨a,vs,rfl,fz,w⟩:=(Ow.any0 _ h4).lst0;have e6:=kg h1 w;subst e6;exact ⟨z,ys,a,rfl,rfl,.inl fz.sq,hc.1,hc.2,q _ rfl⟩
  ·next us =>
   obtain ⟨ys,h1,h2⟩:=zaa.mp hg;by_cases hc:z.length<=16/\(ys.map (·.length)).sum+ys.length<=1048576
   case neg=>rw [if_neg hc] at h2; cases h2
   rw [if_pos hc] at h2;cases h2;obtain ⟨v,r,F1,F2,e,_,_,_,h4,h5⟩:=o;have e5:r=[]:=h5;subst e5 e;obtain ⟨a,vs,rfl,fz,w⟩:=(Ow.any0 _ h4).tup0;have e6:=kg h1 w;subst e6;exact ⟨z,ys,a,rfl,rfl,.inr fz.sq,hc.1,hc.2,q _ rfl⟩
  ·cases hg
def Gp:Str->List D->Option D
 | z,[.str y]=>some (.bool (Txt.startswith z y))
 | _,_=>none
def GG:Str->List D->Option D
 | z,[.str y]=>some (.bool (Txt.endswith z y))
 | _,_=>none
def AN {o:Expr} {es:List Expr} {name:Str} {id:String} {apos cpos:Pos} {r:V->List V->Hp->VK->Prop} {g:Str->List D->Option D} (hK:X.K=K) (slot:Slot "str" name id) (hty:typeOf (.builtin id)=pure (.type "method_descriptor")) (hm:MtR X id r) (hr:MtF K r g) (ho:PE X o (tF K p ds ds1 d1 f)) (ha:PA X (e :: es) (tFA K p ds1 ds2 sh fa))
  (hsh:bT 0 sh=true) (hbase:attributeBase o name X.env (eval o X.env)=eval o X.env)
  (hfew:((backTo cpos (starEach (e :: es) X.env)).all (fun x=>!x.1) && (backToKw cpos (keywordEach [] X.env)).all (fun x=>x.1.isSome)
   && decide ((e :: es).length+([]:List Keyword).length+(if ([]:List Keyword).isEmpty then 0 else 1) < 30))=true)
  (hline:(apos.endLine == cpos.line)=true) (hs:starEach (e :: es) X.env=(false,eval e X.env) :: starEach es X.env) (hplain:(backTo cpos (starEach es X.env)).any (·.1)=false) :
  PE X (.Call (.Attribute o name apos) (e :: es) [] cpos) (tF K p ds ds2 3 (eM g f fa)):=by
 subst hK;exact (pc PySem.F.plainAttrs_str slot hty hm ho ha hbase hfew hline hs hplain).imp fun _ _ _ h=>EH hr hsh (by rw [Bool.and_self]; exact h)
end
section
variable {X:Cx} {K:PySem.W.Frag} {pins:List (Addr × Obj)} {σ:St} {H:Hp} {s:Shared} {O:AS}
mutual
theorem Ow.reads (I:Inv X pins σ H s):∀ (t:D) {v:V} {u:Value},aw t=true->Ow X.K O H t 0 v NoA->RelV v u->∃ as,Reads s.heap u t as
 | .none,_,_,_,h,r=>by
  cases (show _=V.non from h);cases r;exact ⟨_,.none⟩
 | .bool b,_,_,_,h,r=>by
  cases (show _=V.bl b from h);cases r;exact ⟨_,.bool _⟩
 | .int i,_,_,_,h,r=>by
  cases (show _=V.int i from h);obtain ⟨t,rfl⟩:=r;exact ⟨_,.int _ _⟩
 | .str x,_,_,_,h,r=>by
  cases (show _=V.str x from h);obtain ⟨t,rfl⟩:=r;exact ⟨_,.str _ _⟩
 | .list ts,_,_,hn,h,r=>by
  obtain ⟨p,vs,rfl,fz,w⟩:=h.lst0;cases r;obtain ⟨its,rv,⟨o,n,e1,e2,_,e3⟩,_⟩:=I.list fz.sq;obtain ⟨as,ra⟩:=Ows.reads I ts (by simpa [aw] using hn) w rv;exact ⟨_,.list e1 e2 e3 (by simpa using ra)⟩
 | .tuple ts,_,_,hn,h,r=>by
  obtain ⟨p,vs,rfl,fz,w⟩:=h.tup0;cases r;obtain ⟨its,rv,⟨o,e1,e2,n,e3⟩,_⟩:=I.tuple fz.sq;obtain ⟨as,ra⟩:=Ows.reads I ts (by simpa [aw] using hn) w rv;exact ⟨_,.tuple e1 e2 e3 (by simpa using ra)⟩
 | .dict _,_,_,hn,_,_=>by simp [aw] at hn
theorem Ows.reads (I:Inv X pins σ H s):∀ (ts:List D) {vs:List V} {us:List Value},aL ts=true->Ows X.K O H ts 0 vs NoA->Vals vs us->∃ as,ReadsAll s.heap us ts as
 | [],_,_,_,h,r=>by
  cases (show _=[] from h);cases r;exact ⟨_,.nil⟩
 | t :: ts,_,_,hn,h,r=>by
  obtain ⟨v,q,F1,F2,e,_,_,_,h4,h5⟩:=h;subst e;have hn':aw t=true/\aL ts=true:=by simpa [aL] using hn
  cases r with
  | cons ru rr =>
   obtain ⟨as,a1⟩:=Ow.reads I t hn'.1 (Ow.any0 t h4) ru;obtain ⟨bs,a2⟩:=Ows.reads I ts hn'.2 (Ows.any0 ts h5) rr;exact ⟨_,.cons a1 a2⟩
end
mutual
theorem iD:∀ t:D,aw t=true->t.hasDict=false
 | .none,_=>by simp only [PyData.hasDict]
 | .bool _,_=>by simp only [PyData.hasDict]
 | .int _,_=>by simp only [PyData.hasDict]
 | .str _,_=>by simp only [PyData.hasDict]
 | .list ts,h=>by simp only [PyData.hasDict]; exact gZ ts (by simpa [aw] using h)
 | .tuple ts,h=>by simp only [PyData.hasDict]; exact gZ ts (by simpa [aw] using h)
 | .dict _,h=>by simp [aw] at h
theorem gZ:∀ ts:List D,aL ts=true->PyData.hasDictAll ts=false
 | [],_=>by simp only [PyData.hasDictAll]
 | t :: ts,h=>by
  have h':aw t=true/\aL ts=true:=by simpa [aL] using h
  simp only [PyData.hasDictAll,iD t h'.1,gZ ts h'.2,Bool.or_self]
end
def oZ:List D->Option D
 | [.dict []]=>some (.str "{}")
 | [t]=>grd (aw t=true/\t.showable=true/\t.depth<=60/\t.shown.length<=sizeLine) (.str t.shown)
 | _=>none
def AG (hK:X.K=K) (hg:X.A.guards=some []) (hu:X.A.units+64 < cLine):CallR X (.builtin "repr") (rFn K oZ 3):=by
 subst hK;intro pins s σ H xs us Q I r ⟨O,as,t,oa,hd,hr,k⟩;unfold oZ at hr;split at hr
 ·cases hr;obtain ⟨v,rfl,o⟩:=oa.one;obtain ⟨a,vs,rfl,g1,g2⟩:=o.dict0 rfl;have e:vs=[]:=g2;subst e;exact pS hg hu pins s σ H _ us Q I r ⟨_,_,rfl,.inr ⟨a,rfl,g1,rfl⟩,k _ H NoA .refl rfl⟩
 ·next d hne =>
  obtain ⟨⟨c1,c2,c3,c4⟩,rfl⟩:=bV hr;obtain ⟨v,rfl,o⟩:=oa.one;obtain ⟨u,rfl,ru⟩:=da r;obtain ⟨as,rd⟩:=Ow.reads I d c1 o ru;have q:=k (.str d.shown) H NoA .refl rfl;cases d with
  | none =>
   cases (show v=V.non from o);cases ru;have e:(PyData.none).shown=("None" : Str):=PyData.shown_none;rw [e] at q;exact P.repr_of_none ⟨.str _,H,I.tok _,⟨_,rfl⟩,q⟩
  | bool b =>
   cases (show v=V.bl b from o);cases ru;have e:(PyData.bool b).shown=(if b then "True" else "False" : Str):=PyData.shown_bool b;rw [e] at q;exact P.repr_of_bool ⟨.str (if b then "True" else "False"),H,I.tok _,⟨_,rfl⟩,q⟩
  | int i =>
   cases (show v=V.int i from o);obtain ⟨t,rfl⟩:=ru;have e:(PyData.int i).shown=((toString i:String):Str):=PyData.shown_int i;rw [e] at q;have hl:i.natAbs.log2 < 1920:=by simpa [PyData.showable] using c2
   exact P.repr_of_int hl ⟨.str _,H,I.tok _,⟨_,rfl⟩,q⟩
  | str y =>
   cases (show v=V.str y from o);obtain ⟨t,rfl⟩:=ru;have e:(PyData.str y).shown=reprText y:=PyData.shown_str y;rw [e] at q c4;exact P.repr_of_str ⟨.str _,H,I.tok _,⟨_,rfl⟩,q⟩ c4
  | list ts =>
   obtain ⟨p,vs,rfl,_,_⟩:=o.lst0;cases ru;exact repr_of_reads' rd c2 (PyData.noDict_hsm (iD _ c1)) hg (by omega) (fun _ _ e=>e) (fun h' u tk hk=>⟨.str _,H,I.kept (t':=tk) hk,⟨_,rfl⟩,q⟩) c4
  | tuple ts =>
   obtain ⟨p,vs,rfl,_,_⟩:=o.tup0;cases ru;exact repr_of_reads' rd c2 (PyData.noDict_hsm (iD _ c1)) hg (by omega) (fun _ _ e=>e) (fun h' u tk hk=>⟨.str _,H,I.kept (t':=tk) hk,⟨_,rfl⟩,q⟩) c4
  | dict _=>simp [aw] at c1
 ·cases hr
end
section
open PySem.SeqAt Classical
variable {X:Cx} {K:PySem.W.Frag} {pins:List (Addr × Obj)} {σ:St} {H:Hp} {s:Shared} {O:AS}
noncomputable def eqF (X:Cx) (O:AS) (H:Hp) (a:D) (u:Value):Bool:=decide (∃ d v,RelV v u/\aw d=true/\Ow X.K O H d 0 v NoA/\peq d a=true)
def qY (I:Inv X pins σ H s) {a d:D} {v:V} {u:Value} (r:RelV v u) (hn:aw d=true) (o:Ow X.K O H d 0 v NoA):eqF X O H a u=peq d a:=by
 unfold eqF;cases h:peq d a with
 | true=>exact zaB ⟨d,v,r,hn,o,h⟩
 | false =>
  refine zaA fun ⟨d',v',r',hn',o',h'⟩=>?_;have e:=r.inj r';subst e
  have:=Ow.inj I d d' o o' hn;subst this;rw [h] at h';cases h'
def lT (I:Inv X pins σ H s) {a:D}:∀ {ts:List D} {vs:List V} {us:List Value},aL ts=true->Ows X.K O H ts 0 vs NoA->Vals vs us->us.any (eqF X O H a)=ts.any fun t=>peq t a
 | [],_,_,_,h,r=>by
  cases (show _=[] from h);cases r;rfl
 | t :: ts,_,_,hn,h,r=>by
  obtain ⟨v,q,F1,F2,e,_,_,_,h4,h5⟩:=h;subst e;have hn':aw t=true/\aL ts=true:=by simpa [aL] using hn
  cases r with
  | cons ru rr=>rw [List.any_cons,List.any_cons,qY I ru hn'.1 (Ow.any0 t h4),lT I hn'.2 (Ows.any0 ts h5) rr]
def lJ (I:Inv X pins σ H s) {A:Around} {a:D} {x:V} {v:Value} (hna:aw a=true) (oa:Ow X.K O H a 0 x NoA) (ra:RelV x v) (hu:A.units+60+1 < cLine):∀ {ts:List D} {vs:List V} {us:List Value},aL ts=true->cz ts<=60->Ows X.K O H ts 0 vs NoA->Vals vs us->∀ u∈us,EqAt A s u v (eqF X O H a u)
 | [],_,_,_,_,h,r=>by
  cases (show _=[] from h);cases r;exact fun u hu=>by cases hu
 | t :: ts,_,_,hn,hdp,h,r=>by
  obtain ⟨w,q,F1,F2,e,_,_,_,h4,h5⟩:=h;subst e;have hn':aw t=true/\aL ts=true:=by simpa [aL] using hn
  have hd':e7 t<=60/\cz ts<=60:=by simp only [cz] at hdp; omega
  cases r with
  | cons ru rr =>
   intro u' hu';rcases zay.mp hu' with rfl | hu'
   ·rw [qY I ru hn'.1 (Ow.any0 t h4)];exact (pO I 60 t a A w x _ v hd'.1 hn'.1 hna (Ow.any0 t h4) oa ru ra hu).1
   ·exact lJ I hna oa ra hu hn'.2 hd'.2 (Ows.any0 ts h5) rr u' hu'
def inL:D->D->Option D
 | x,.list ts=>grd (aw x=true/\aL ts=true/\cz ts<=60) (.bool (ts.any fun t=>peq t x))
 | x,.tuple ts=>grd (aw x=true/\aL ts=true/\cz ts<=60) (.bool (ts.any fun t=>peq t x))
 | _,_=>none
def zI (hK:X.K=K) (hu:X.A.units+64 < cLine):OpR X (compareOp .In) (rF2 K inL 3):=by
 subst hK;intro pins s σ H x y v u Q I rx ry ⟨O,a,b,t,oa,ob,hd,hg,k⟩;have hu1:X.A.in1.units+60+1 < cLine:=by show X.A.units+1+60+1 < cLine; omega
 cases b with
 | list ts =>
  obtain ⟨⟨c1,c2,c3⟩,rfl⟩:=bV hg;obtain ⟨p,vs,rfl,fz,w⟩:=ob.lst0;cases ry;obtain ⟨its,r,pl,hz⟩:=I.list fz.sq;refine SeqAt.in_listAt (eqF X O H a) pl.isList (fun z hz=>lJ I c1 oa rx hu1 c2 c3 w r z (by simpa using hz)) ⟨.bl _,H,I,rfl,?_⟩;rw [show its.toArray.any (eqF X O H a)=its.any (eqF X O H a) by simp,lT I c2 w r];exact k _ H NoA .refl rfl
 | tuple ts =>
  obtain ⟨⟨c1,c2,c3⟩,rfl⟩:=bV hg;obtain ⟨p,vs,rfl,fz,w⟩:=ob.tup0;cases ry;obtain ⟨its,r,pl,hz⟩:=I.tuple fz.sq;refine SeqAt.in_tupleAt (eqF X O H a) pl (fun z hz=>lJ I c1 oa rx hu1 c2 c3 w r z (by simpa using hz)) ⟨.bl _,H,I,rfl,?_⟩;rw [show its.toArray.any (eqF X O H a)=its.any (eqF X O H a) by simp,lT I c2 w r];exact k _ H NoA .refl rfl
 | _=>cases hg
end
section
variable {K:PySem.W.Frag} {O:AS} {H:Hp}
end
abbrev MP:=En->Option (List Nat × En)
section
variable {X:Cx} {K:PySem.W.Frag} {p p1 p2:Bool} {J:Jd} {ds ds1 ds2:List Nat} {H:Hp} {σ:St} {d d1 d2 i m:Nat} {f fk fe:ME} {mp:MP} {e b o:Expr} {Q:VK}
end
def Al {P:Program} {w:World} {K:PySem.W.Frag} {mg:Str->Option Value} {base:Heap} {k dr:Nat} {x:Str} {ps:List Str} {dps:List Nat} {f:Addr} {fd:FuncData} (m:mg x=some (.ref f)) (hk:PySem.W.keepIn K (.ref f)=true) (b:Binds K fd ps []):Kn P w K mg base k x ps (spF K dps dr fun _=>none) :=
 ⟨f,fd,⟨fun vs H Q E ⟨_,_,_,_,_,_,z,_⟩=>(nomatch z),fun A outer s H args us vs Q E _ _ _ _ ⟨_,_,_,_,_,_,z,_⟩=>(nomatch z)⟩,m,hk,b⟩
def bE (f:Nat->Str):Nat->List Str
 | 0=>[]
 | i+1=>if (bE f i).any (· == f i)=true then bE f i else bE f i++[f i]
def gP (f:Nat->Str) (i:Nat):bE f (i+1)=if (bE f i).any (· == f i)=true then bE f i else bE f i++[f i]:=rfl
def jM (f:Nat->Str):∀ i,(bE f i).length<=i
 | 0=>zav _
 | i+1=>by
  have h:=jM f i;rw [gP];by_cases q:(bE f i).any (· == f i)=true
  ·rw [if_pos q]; omega
  ·rw [if_neg q,zae]; show _+1<=_; omega
def rY (f:Nat->Str) (i:Nat) (x:Str):(bE f (i+1)).any (· == x)=((bE f i).any (· == x) || decide (x=f i)):=by
 rw [gP];by_cases q:(bE f i).any (· == f i)=true
 ·rw [if_pos q];by_cases e:x=f i
  ·rw [e,q,zaB rfl]; rfl
  ·rw [zaA e,Bool.or_false]
 ·rw [if_neg q,List.any_append];congr 1;by_cases e:x=f i
  ·rw [e,zaB rfl]; simp
  ·rw [zaA e];simp only [List.any_cons,List.any_nil,Bool.or_false,beq_eq_false_iff_ne];exact fun z=>e z.symm
def nj (f:Nat->Str) (i:Nat):(bE f (i+1)).length=if (bE f i).any (· == f i) then (bE f i).length else (bE f i).length+1:=by
 rw [gP];by_cases q:(bE f i).any (· == f i)=true
 ·rw [if_pos q,if_pos q]
 ·rw [if_neg q,if_neg q,zae]; rfl
abbrev SetS (P:Program) (w:World) (h:Heap) (a:Addr) (f:Nat->Str) (n:Nat):Prop:=h.SetOf (strKind P w) a (fun k=>(bE f n).any (· == k)) (bE f n).length
section
variable {P:Program} {w:World} {A:Around} {R:Result->Shared->Prop} {I:Addr} {fp wr:List Addr} {G:Array GenState->Array GenState->Prop} {n:Nat} {Pi:Nat->Value->Prop} {St:Nat->Shared->Prop}
def SetS.mv {h h':Heap} {a:Addr} {f:Nat->Str} {n:Nat} (x:SetS P w h a f n) (k:∀ o,h.get? a=some o->h'.get? a=some o):SetS P w h' a f n:=by
 obtain ⟨o,es,ep,t,e,r⟩:=x;exact ⟨o,es,ep,t,k o e,r⟩
def rM (W:WalksS P w A.in1 I fp wr G n Pi St) (a:Addr) (ha:a ∉ fp) (f:Nat->Str) (hf:∀ i v,Pi i v->∃ t,v=.str (f i) t) (hb:n+1 < scanBound) :
  ∀ (k i:Nat) (s:Shared),n - i=k->i<=n->St i s->SetS P w s.heap a f i ->
   (∀ s',Moved (a :: wr) G s s'->SetS P w s'.heap a f n->R (.ok (.ret .none)) s')->codeAny (model P w) A (.builtin "set.update.loop" ⟨[.ref a,.ref I],[]⟩) R s:=by
 have hw:a ∉ wr:=fun h=>ha (W.sub _ h);intro k
 induction k with
 | zero =>
  intro i s hk hi st hS q;obtain rfl:i=n:=by omega
  refine codeAny_builtin PyProof.Rows.F.entry_set_update_loop ?_;rw [Around.under_plainId PyProof.Rows.F.plain_set_update_loop _];show wpAny _ _ (pyNext (.ref I) >>= _) _ _ s;exact zam (W.done s _ _ st fun s1 m=>zaT (q s1 (m.mono fun b h=>zaj _ h) (hS.mv fun o e=>m.heap a o hw e)))
 | succ k ih =>
  intro i s hk hi st hS q;have lt:i < n:=by omega
  refine codeAny_builtin PyProof.Rows.F.entry_set_update_loop ?_;rw [Around.under_plainId PyProof.Rows.F.plain_set_update_loop _];show wpAny _ _ (pyNext (.ref I) >>= _) _ _ s;refine zam (W.item i s _ _ lt st fun v s1 hv st1 m=>?_);obtain ⟨t,rfl⟩:=hf i v hv;have h1:SetS P w s1.heap a f i:=hS.mv fun o e=>m.heap a o hw e;show wpAny _ _ (holding [Value.str (f i) t] (setAdd a (.str (f i) t)) >>= _) _ _ s1;refine zam (wpAny_holding ?_);unfold setAdd;refine wpAny_holding (zam ((strKind P w).pyHash (k:=f i) (strKind_is P w (f i) t) ?_));have le:=jM f i;refine wpAny_setAddHashed_of (knd:=strKind P w) (s:={ s1 with toks:=s1.toks+1 }) (strKind_is P w (f i) t) rfl h1 (by omega) fun h2 sb h3=>?_;have h4:SetS P w h2 a f (i+1):=SetOf_congr h3 (fun x=>(rY f i x).symm) (nj f i).symm;refine zaT ⟨plainId_quiet PyProof.Rows.F.plain_set_update_loop _,ih (i+1) _ (by omega) lt (W.frame _ s1 _ _ st1 (Nat.le_succ _) fun b hb o e=>?_) h4 fun s3 m3 h5=>?_⟩
  ·rw [sb.2 b fun z=>ha (z ▸ hb)]; exact e
  ·refine q s3 (Moved.trans W.gtrans ((m.mono fun b h=>zaj _ h).then_heap (Nat.le_succ _) fun b o hb e=>?_) m3) h5;rw [sb.2 b fun z=>hb (z ▸ zaq)]; exact e
end
section
variable {P:Program} {w:World} {A:Around} {E:Value->Shared->Prop} {s:Shared}
def nW:isSubtype (.type "str") (.type "set")=pure false:=by rw [isSubtype_type]; kernel_rfl
def jS:isSubtype (.type "str") (.type "frozenset")=pure false:=by rw [isSubtype_type]; kernel_rfl
def db (z:Str) (i:Nat):Str:=match z.cps[i]? with
 | some c=>mk1 c
 | none=>""
abbrev kR (led:Bool):Obj:={ cls:=.type "set",dict:=none,data:=.set #[] 0 (.fresh 0 0 led) }
def mN {z:Str} {t:Tok} {Q:Value->Shared->Prop} (hh:A.handled=none) (hb:z.length+1 < scanBound)
  (h:∀ (h':Heap) (tk:Nat),SetS P w h' s.heap.objs.size (db z) z.length->(∀ b o,b < s.heap.objs.size->s.heap.get? b=some o->h'.get? b=some o)->Q (.ref s.heap.objs.size) { s with heap:=h',toks:=tk }) :
  wpAny (model P w) A (call (.type "set") [.str z t]) Q E s:=by
 obtain ⟨c,tl,e0⟩:=PySem.F.called_set.mro;have e1:=PySem.F.called_set.made;have e2:=PySem.F.called_set.sub;refine wpAny_call (codeAny_of_tree ?_);show wpAny _ _ (callAny (.type "set") ⟨[.str z t],[]⟩) _ _ _;refine zaT ⟨Code.quiet_builtin _ (by decide +kernel),codeAny_builtin PySem.F.entry_type_call ?_⟩;rw [Around.under_plain (weight_type_call_type "set" [.str z t] []) rfl];have e3:=PySem.F.called_set.notType;have e4:=PySem.F.called_set.canCreate;have e5:=PySem.F.typeCall_set_1 (.str z t)
 repeat (any_goals (first | assumption | wp_step))
 refine codeAny_mono (code_set_new_1 (.str z t) (E:=E) (Q₁:=fun obj s1=>∃ led:Bool,obj=.ref s.heap.objs.size/\s1={ s with heap:=s.heap.push (kR led) }) fun led=>⟨led,rfl,rfl⟩) fun r s1 hr=>?_;cases r with
 | error e=>exact hr
 | ok fl =>
  cases fl with
  | ret obj =>
   obtain ⟨led,rfl,rfl⟩:=hr;have g0:(s.heap.push (kR led)).get? s.heap.objs.size=some (kR led):=zan _ rfl;have hT:Shared.TypeIs { s with heap:=s.heap.push (kR led) } (.ref s.heap.objs.size) "set":=⟨_,g0,rfl⟩;have i1:=PySem.F.called_set.init.lookup;have i2:=PySem.F.called_set.init.bind (.ref s.heap.objs.size)
   repeat (any_goals (first | assumption | wp_step))
   refine codeAny_mono (codeAny_call_builtin (R:=wants (fun r s2=>r=.none/\∃ h' tk,s2={ s with heap:=h',toks:=tk }/\SetS P w h' s.heap.objs.size (db z) z.length /\
     ∀ b o,b < s.heap.objs.size->s.heap.get? b=some o->h'.get? b=some o) E) PySem.F.called_set.init.plain PySem.F.entry_set_init (check_set_init_1 hT ?_)) fun r2 s2 hr2=>?_
   ·have j1:=nW;have j2:=jS;have j3:(Value.type "str" == Value.type "dict")=false:=by decide
    unfold Builtin.«set.__init__» noKeywords Builtin.Frozenset.updateFrom;generalize hPI:pyIter=PI
    wp_walk
    subst hPI;refine wpAny_pyIter_str fun o St W w0=>?_;refine zam (wpAny_runValue ?_);have hne:s.heap.objs.size ∉ [(s.heap.push (kR led)).objs.size]:=by rw [Heap.size_push]; simp
    refine rM ((W _ (by simp [hh])).toS) s.heap.objs.size hne (db z) (fun i v ⟨c,u,ec,ev⟩=>⟨u,by rw [ev]; unfold db; rw [ec]; rfl⟩) hb (z.length - 0) 0 _ rfl (Nat.zero_le _) w0 ?_ ?_
    ·exact SetOf_congr ((setObjOf_fresh (knd:=strKind P w) led).setOf (zaf _ g0) (by unfold scanBound; omega)) (fun _=>rfl) rfl
    ·intro s3 m h3;obtain ⟨h',g',d',tk,os'⟩:=s3;obtain rfl:g'=s.gens:=m.gens;obtain rfl:d'=s.drawn:=m.drawn;obtain rfl:os'=s.os:=m.os;refine zaT (zaT ⟨rfl,h',tk,rfl,h3,fun b o hb e=>?_⟩);refine m.heap b o ?_ (zaf _ (zaf _ e));simp only [zay,zap,or_false,not_or];exact ⟨zaw hb,zaw (zag hb (by rw [Heap.size_push]; omega))⟩
   ·cases r2 with
    | error e=>exact hr2
    | ok fl2 =>
     cases fl2 with
     | ret r =>
      obtain ⟨rfl,h',tk,rfl,h3,hk⟩:=hr2
      repeat (any_goals (first | assumption | wp_step))
      exact h _ _ h3 hk
     | _=>exact hr2.elim
  | _=>exact hr.elim
end
section
variable {X:Cx} {K:PySem.W.Frag} {p p1 p2:Bool} {ds ds1 ds2:List Nat} {d d1 d2:Nat} {e k:Expr} {f f1 f2:ME} {fa:MA} {sh:Sh} {σ:St} {H:Hp} {Q Q':VK} {pos pos2 px py:Pos}
def oY (P:Program) (w:World) (a:Addr) (z:Str):HO:=.ext fun h=>SetS P w h a (db z) z.length
def E2 (P:Program) (w:World):List V->Hp->VK->Prop:=fun xs H Q=>∃ z,xs=[.str z]/\z.length+1 < scanBound/\∀ a,H a=none->Q (.ref a) (upd H a (oY P w a z))
def q5 (hc:X.calm=true):CallR X (.type "set") (E2 X.prog X.w):=by
 intro pins s σ H xs us Q I r ⟨z,e,hb,q⟩;subst e;obtain ⟨u,rfl,ru⟩:=da r;obtain ⟨t,rfl⟩:=ru;refine mN (I.ok.hd hc) hb fun h' tk hS hk=>⟨.ref _,_,I.laid (a:=s.heap.objs.size) (o:=oY X.prog X.w s.heap.objs.size z) (t':=tk) (fun b o e=>hk b o (zal e) e) (zav _) ?_,rfl,q _ (I.hok.fresh (zav _))⟩;have h2:=hS;obtain ⟨o,_,_,_,e,_⟩:=h2;exact ⟨hS,⟨o,e⟩,fun h1 h2 a k=>a.mv k⟩
def E5 (P:Program) (w:World):List V->Hp->VK->Prop:=fun xs H Q=>∃ a z,xs=[.ref a]/\H a=some (oY P w a z)/\z.length < 4096/\Q (.int (bE (db z) z.length).length) H
def rg:CallR X (.builtin "len") (E5 X.prog X.w):=by
 intro pins s σ H xs us Q I r ⟨a,z,e,ha,hz,q⟩;subst e;obtain ⟨u,rfl,ru⟩:=da r;cases ru;obtain ⟨⟨o,es,ep,t,g1,g2,g3,_,_,_,g5,g6⟩,_⟩:=I.hok a _ ha;have le:=jM (db z) z.length;have e:(es.size:Int)=((bE (db z) z.length).length:Nat):=by rw [g6]
 refine call_len_set g1 g2 g3 g5 (by omega) ⟨.int es.size,H,(I.tok _).tok _,⟨_,rfl⟩,?_⟩;rw [e];exact q
def kT:D->Option D
 | .str z=>grd (z.length < 4000) (.int (bE (db z) z.length).length)
 | _=>none
def qT (hK:X.K=K) (hc:X.calm=true) (hg:Gl X "len") (hm:X.mg "len"=none) (hg2:Gl X "set") (hm2:X.mg "set"=none) (hb:bootBuiltins "len"=some (.builtin "len")) (hb2:bootBuiltins "set"=some (.type "set")) (he:PE X e (tF K p ds ds1 d1 f)) (hs:aN e=true) :
  PE X (.Call (.Name "len" px) [.Call (.Name "set" py) [e] [] pos2] [] pos) (tF K p ds ds1 3 (e1 kT f)):=by
 subst hK;refine (kf rg hg hm hb (eo (l5 (q5 hc) hg2 hm2 hb2 (eo he pa_nil (bh hs)) (by decide) (by decide) (bh hs) rfl) pa_nil (bh rfl)) (by decide) (by decide) (bh rfl) rfl).imp fun σ H Q h=>?_;obtain ⟨Ox,en,R,t,en',e,hf,k⟩:=h;unfold e1 at hf;obtain ⟨⟨t1,en1⟩,h1,hf⟩:=zaa.mp hf;obtain ⟨t',h3,hf⟩:=zab.mp hf;cases hf;cases t1 with
 | str z =>
  obtain ⟨c,rfl⟩:=bV h3;refine ⟨Ox,en,R,.str z,en1,e,h1,fun v H' R' F P o=>?_⟩;refine ⟨z,by rw [show v=.str z from o],by unfold scanBound; omega,fun a ha=>?_⟩;refine ⟨a,z,rfl,a8,by omega,?_⟩;have n:NewTo H' (upd H' a (oY X.prog X.w a z)) NoA:=⟨(cb ha).1,fun _ z=>z.elim⟩;exact k _ _ R' NoA (P.fin n) rfl
 | _=>cases h3
def GJ:D->D->Option D
 | .list ts,.int (-1)=>some (.list ts.reverse)
 | _,_=>none
def GB:D->D->Option D
 | .tuple ts,.int (-1)=>some (.tuple ts.reverse)
 | _,_=>none
def GC:D->D->Option D
 | .str z,.int (-1)=>grd (z.length<=sizeLine) (.str ⟨z.cps.toList.reverse.toArray⟩)
 | _,_=>none
def Gv (fa:MA):MI:=fun en=>(fa en).bind fun r=>match r.1 with
 | [.inl (.str x),.inl (.str y)]=>some (rG (ff x) (ff y),r.2)
 | _=>none
def isB:D->D->Option D
 | .bool a,.bool b=>some (.bool (a == b))
 | _,_=>none
end
section
variable {X:Cx} {K:PySem.W.Frag} {pins:List (Addr × Obj)} {σ:St} {H:Hp} {s:Shared} {O:AS}
def Inv.noSeq (I:Inv X pins σ H s) {a:Addr} {o:Obj} {xs:Array Value} {n:Nat} (h:s.heap.get? a=some o) (d:o.data=.seq xs n):sysModules≠a:=by
 intro e;obtain ⟨mm,hm⟩:=I.mod.mods;obtain ⟨ob,es,ep,g1,g2,_⟩:=hm.keeps I.bk;rw [e,h] at g1;cases g1;rw [d] at g2;cases g2
def iC {h:Heap}:∀ (kk:List Key) {its:List Value},Vals (kk.map kV) its->ReadsAll h its (kk.map kD) []
 | [],_,r=>by cases r; exact .nil
 | .inl i :: kk,_,r=>by
  cases r with
  | cons ru rr =>
   obtain ⟨t,rfl⟩:=ru;exact .cons (as:=[]) (bs:=[]) (.int i t) (iC kk rr)
 | .inr x :: kk,_,r=>by
  cases r with
  | cons ru rr =>
   obtain ⟨t,rfl⟩:=ru;exact .cons (as:=[]) (bs:=[]) (.str x t) (iC kk rr)
mutual
def noX:D->Bool
 | .list ts=>gh ts
 | .tuple ts=>gh ts
 | .dict ks=>!isX (.dict ks) && jd ks
 | _=>true
def gh:List D->Bool
 | []=>true
 | t :: ts=>noX t && gh ts
def jd:List (D × D)->Bool
 | []=>true
 | (_,t) :: ts=>noX t && jd ts
end
def Fi {ks:List (D × D)} (h:noX (.dict ks)=true):jd ks=true:=by
 have:(!isX (.dict ks))=true/\jd ks=true:=by simpa [noX] using h
 exact this.2
mutual
theorem Ow.reads2 (I:Inv X pins σ H s):∀ (t:D) {v:V} {u:Value},noX t=true->Ow X.K O H t 0 v NoA->RelV v u->∃ as,Reads s.heap u t as/\sysModules ∉ as
 | .none,_,_,hX,h,r=>by
  cases (show _=V.non from h);cases r;exact ⟨_,.none,by simp⟩
 | .bool b,_,_,hX,h,r=>by
  cases (show _=V.bl b from h);cases r;exact ⟨_,.bool _,by simp⟩
 | .int i,_,_,hX,h,r=>by
  cases (show _=V.int i from h);obtain ⟨t,rfl⟩:=r;exact ⟨_,.int _ _,by simp⟩
 | .str x,_,_,hX,h,r=>by
  cases (show _=V.str x from h);obtain ⟨t,rfl⟩:=r;exact ⟨_,.str _ _,by simp⟩
 | .list ts,_,_,hX,h,r=>by
  obtain ⟨p,vs,rfl,fz,w⟩:=h.lst0;cases r;obtain ⟨its,rv,pl,_⟩:=I.list fz.sq;obtain ⟨as,ra,rb⟩:=Ows.reads2 I ts (by simpa [noX] using hX) w rv;obtain ⟨o,n,e,e2,_,e3⟩:=pl;refine ⟨_,.list e e2 e3 (by simpa using ra),fun hm=>?_⟩;rcases zay.mp hm with z | z
  ·exact I.noSeq e e3 z
  ·exact rb z
 | .tuple ts,_,_,hX,h,r=>by
  obtain ⟨p,vs,rfl,fz,w⟩:=h.tup0;cases r;obtain ⟨its,rv,⟨o,e1,e2,n,e3⟩,_⟩:=I.tuple fz.sq;obtain ⟨as,ra,rb⟩:=Ows.reads2 I ts (by simpa [noX] using hX) w rv;exact ⟨_,.tuple e1 e2 e3 (by simpa using ra),rb⟩
 | .dict ks,_,_,hX,h,r=>by
  obtain ⟨a,vs,rfl,⟨_,ha,_,g2⟩ | ⟨z,_⟩ | ⟨_,⟨kk,b,hk,ha,_⟩ | ⟨cn,C,hk,_⟩⟩⟩:=h
  ·cases r;obtain ⟨_,hsys,us,kv,dd⟩:=pP I.hok ha;obtain ⟨o,es,n,g1,gc,g3,_,g5,_⟩:=dd;obtain ⟨bs,r1,r2,r3⟩:=Owd.reads2 I ks (Fi hX) g2 kv g5;refine ⟨_,.dict g1 gc.1 g3 r1 r2,fun hm=>?_⟩;have hm':sysModules=a\/sysModules∈bs:=by simpa using hm
   rcases hm' with e | e
   ·rw [<- e] at hsys;simp at hsys
   ·exact r3 e
  ·exact absurd rfl z
  ·cases r;subst hk;obtain ⟨_,hsys,xs,rel,o,es,ep,g1,gc,g3,g4,_⟩:=zK I.hok ha;cases rel with
   | @cons _ q _ _ rq rr =>
    cases rr;obtain ⟨q1,q2,q3⟩:=q;obtain ⟨e1,e2,e3⟩:=rq;have e3':q3=.bool b:=e3;subst e3';obtain ⟨its,rv,⟨ot,t1,t2,n,t3⟩,_⟩:=I.tuple (SqT.of e2);have rk:=iC (h:=s.heap) kk rv;refine ⟨_,.dict g1 gc.1 g3 (as:=[]) (bs:=[]) ?_ ?_,fun hm=>?_⟩
    ·rw [g4];exact .cons (as:=[]) (bs:=[]) (.tuple t1 t2 t3 (by simpa using rk)) .nil
    ·rw [g4];exact .cons (as:=[]) (bs:=[]) (.bool b) .nil
    ·have hm':sysModules=a:=by simpa using hm
     rw [<- hm'] at hsys;simp at hsys
  ·subst hk
   have:(!isX (.dict [(.none,.str cn)]))=true/\jd [(.none,.str cn)]=true:=by simpa [noX] using hX
   cases this.1
theorem Ows.reads2 (I:Inv X pins σ H s):∀ (ts:List D) {vs:List V} {us:List Value},gh ts=true->Ows X.K O H ts 0 vs NoA->Vals vs us->∃ as,ReadsAll s.heap us ts as/\sysModules ∉ as
 | [],_,_,hX,h,r=>by
  cases (show _=[] from h);cases r;exact ⟨_,.nil,by simp⟩
 | t :: ts,_,_,hX,h,r=>by
  have hX':noX t=true/\gh ts=true:=by simpa [gh] using hX
  obtain ⟨v,q,F1,F2,e,_,_,_,h4,h5⟩:=h;subst e;cases r with
  | cons ru rr =>
   obtain ⟨as,a1,b1⟩:=Ow.reads2 I t hX'.1 (Ow.any0 t h4) ru;obtain ⟨bs,a2,b2⟩:=Ows.reads2 I ts hX'.2 (Ows.any0 ts h5) rr;exact ⟨_,.cons a1 a2,fun z=>(zax.mp z).elim b1 b2⟩
theorem Owd.reads2 (I:Inv X pins σ H s):∀ (ks:List (D × D)) {vs:List (Key × V)} {us:List (Key × Value)} {es:List DictEntry},jd ks=true->Owd X.K O H ks 0 vs NoA->KV vs us->Pairs (bU X.prog X.w) es us ->
  ∃ bs,ReadsAll s.heap (es.map fun x=>x.key) (ks.map fun x=>x.1) []/\ReadsAll s.heap (es.map fun x=>x.val) (ks.map fun x=>x.2) bs/\sysModules ∉ bs
 | [],_,_,_,hX,h,r,p=>by
  cases (show _=[] from h);cases r;cases p;exact ⟨_,.nil,.nil,by simp⟩
 | (k,t) :: ks,_,_,_,hX,h,r,p=>by
  have hX':noX t=true/\jd ks=true:=by simpa [jd] using hX
  obtain ⟨q,v,r',F1,F2,e,rfl,_,_,_,h4,h5⟩:=h;subst e;cases r with
  | cons ru rr =>
   cases p with
   | @cons e0 _ _ _ p1 p2 p3 =>
    obtain ⟨as,a1,b1⟩:=Ow.reads2 I t hX'.1 (Ow.any0 t h4) ru.2;obtain ⟨bs,a2,a3,b2⟩:=Owd.reads2 I ks hX'.2 (Owd.any0 ks h5) rr p3;have hk:Reads s.heap e0.key (kD q) []:=by
     have p1':iG _ e0.key=true:=p1;rw [<- ru.1] at p1';rcases bG p1' with ⟨i,t,e1,e2⟩ | ⟨x,t,e1,e2⟩
     ·have e1':q=Sum.inl i:=e1;rw [e1',e2];exact .int _ _
     ·have e1':q=Sum.inr x:=e1;rw [e1',e2];exact .str _ _
    exact ⟨as++bs,.cons hk a2,.cons (show Reads s.heap e0.val t as from p2 ▸ a1) a3,fun z=>(zax.mp z).elim b1 b2⟩
end
def kK:List D->Option D
 | [t]=>grd (noX t=true/\t.showable=true/\t.depth<=60/\t.shown.length<=sizeLine) (.str t.shown)
 | _=>none
def nC (hK:X.K=K) (hg:X.A.guards=some []) (hu:X.A.units+64 < cLine):CallR X (.builtin "repr") (rFn K kK 3):=by
 intro pins s σ H xs us Q I r ⟨O,as,t,oa,hd,hr,k⟩;by_cases hold:oZ as=some t
 ·exact AG hK hg hu pins s σ H xs us Q I r ⟨O,as,t,oa,hd,hold,k⟩
 subst hK;unfold kK at hr;split at hr
 ·next d =>
  obtain ⟨⟨cX,c2,c3,c4⟩,rfl⟩:=bV hr;obtain ⟨v,rfl,o⟩:=oa.one;obtain ⟨u,rfl,ru⟩:=da r;obtain ⟨as,rd,hs⟩:=Ow.reads2 I d cX o ru;have q:=k (.str d.shown) H NoA .refl rfl;obtain ⟨a,rfl⟩:∃ a,u=.ref a:=by
   cases d with
   | tuple ts =>
    obtain ⟨p,vs,rfl,_,_⟩:=o.tup0;exact ⟨p,ru⟩
   | list ts =>
    obtain ⟨p,vs,rfl,_,_⟩:=o.lst0;exact ⟨p,ru⟩
   | dict ks =>
    obtain ⟨a,vs,rfl,_⟩:=o;exact ⟨a,ru⟩
   | _ =>
    refine absurd ?_ hold;show grd _ _=_;exact if_pos ⟨rfl,c2,c3,c4⟩
  exact repr_of_reads' rd c2 (fun _=>hs) hg (by omega) (fun _ _ e=>e) (fun h' u tk hk=>⟨.str _,H,I.kept (t':=tk) hk,⟨_,rfl⟩,q⟩) c4
 ·cases hr
end
section
variable {X:Cx} {K:PySem.W.Frag} {p p1 p2:Bool} {ds ds1 ds2:List Nat} {d d1 d2:Nat} {a b:Expr} {f f1 f2:ME} {σ:St} {H:Hp} {Q Q':VK} {pos:Pos} {ta tb:TE} {rest:List Expr}
def Gj:D->Option Int->Option Int->Option D
 | .tuple ts,lo,hi=>grd (¬ (HT.sIx ts.length 0 lo=0/\HT.sIx ts.length ts.length hi=ts.length)) (.tuple (bK ts lo hi))
 | _,_,_=>none
def Ei (hK:X.K=K):SlR X (rFs K Gj 0):=(Ga hK).imp fun x lo hi H Q ⟨O,a,t,oa,hd,hg,k⟩=>by
 cases a with
 | tuple ts =>
  obtain ⟨c,rfl⟩:=bV hg;obtain ⟨a,vs,e1,f1,w1⟩:=oa.tup0;refine ⟨a,vs,e1,f1.sq,by rw [w1.len]; exact c,fun p hp=>?_⟩;have w2:Ows K O H (bK ts lo hi) 0 (h8 vs lo hi) NoA:=by
   unfold bK h8;rw [w1.len];exact (w1.drop _).take _
  exact k _ _ _ (ir hp hd w2).1 (ir hp hd w2).2
 | _=>cases hg
def FW:D->Option Bool
 | .none=>some false
 | .bool b=>some b
 | .list ts=>some (!ts.isEmpty)
 | .tuple ts=>some (!ts.isEmpty)
 | _=>none
def GP (f g:ME):ME:=fun en=>(f en).bind fun r=>(FW r.1).bind fun c=>if c then some r else g r.2
end
section
variable {X:Cx} {K:PySem.W.Frag} {p p1 p2:Bool} {ds ds1 ds2:List Nat} {d d1 d2:Nat} {a b:Expr} {f f1 f2:ME} {σ:St} {H:Hp} {Q Q':VK} {pos:Pos}
end
end L2
namespace L2
open PySem PySem.Spec PyProof.Rows PySem.SeqAt PySem.MeetsSeq
section
variable {A:Around} {s:Shared}
end
section
variable {X:Cx} {pins:List (Addr × Obj)} {σ:St} {H:Hp} {s:Shared} {O:AS}
end
section
variable {X:Cx} {K:PySem.W.Frag}
end
def GL:D->D->Option D
 | .tuple ts,.int k=>grd (1<=k/\k<=1000/\ts.length<=1000) (.tuple (List.replicate k.toNat ts).flatten)
 | _,_=>none
section
variable {X:Cx} {K:PySem.W.Frag}
def GD:D->D->Option D
 | .int k,.str z=>grd (z.length<=4000/\1<=k/\k<=4000) (.str (Txt.mul z k))
 | _,_=>none
end
section
variable {X:Cx} {K:PySem.W.Frag} {p p1 p2:Bool} {ds ds1 ds2:List Nat} {d d1 d2:Nat} {e:Expr} {f f1 f2:ME} {σ:St} {H:Hp} {Q Q':VK}
end
def Gy:D->D->Option D
 | .tuple ts,b=>grd (aw b=true/\aL ts=true/\cz ts<=60) (.int (ts.countP fun t=>peq t b:Nat))
 | _,_=>none
section
variable {X:Cx} {K:PySem.W.Frag} {p:Bool} {ds ds1 ds2:List Nat} {d d1 d2:Nat} {e:Expr} {f f1 f2:ME} {σ:St} {H:Hp} {Q Q':VK}
end
end L2
namespace L2
open PySem PySem.Spec PyProof.Rows HT
section
variable {prog:Program} {w:World} {A:Around} {E:Value->Shared->Prop} {s:Shared}
def jV {t sl:Addr} {items:Array Value} {vl vu:Value} {lo hi:Option Int} {Q:Value->Shared->Prop} (ht:IsTup s.heap t items) (hs:s.heap.IsSliceOf sl vl vu .none) (pl:IsPart vl lo) (pu:IsPart vu hi)
  (hw:HT.sIx items.size 0 lo=0/\HT.sIx items.size items.size hi=items.size) (h:Q (.ref t) s):wpAny (model prog w) A (getItem (.ref t) (.ref sl)) Q E s:=by
 obtain ⟨os,hos,hcs,hds⟩:=id hs;have hTs:s.TypeIs (.ref sl) "slice":=⟨os,hos,hcs⟩;obtain ⟨ot,hot,hct,m,hdt⟩:=id ht;obtain ⟨cls,dd,data,slo⟩:=ot;simp only at hct hdt;subst hct hdt;unfold getItem
 try with_reducible refine wpAny_holding ?_
 first | refine zam (zaT ?_) | skip
 refine zam (wpAny_sequenceKey ht.typeIs (by decide) (zam (wpAny_callSpecial?_slot (name:=Str.ofString "__getitem__") ht.typeIs PyProof.Rows.slot_tuple_getitem
  (wpAny_call_entry PyProof.Rows.slot_tuple_getitem ht.typeIs entry_tuple_getitem ?_ (args_tuple_getitem _ _)))))
 show wpAny _ _ (Builtin.Tuple.tupleItemsOf (.ref t) >>= _) _ _ s;refine zam (tupleItemsOf_ ht (zam (wpAny_typeOf hTs ?_)));rw [if_pos (by decide)];refine zam (gg hs pl pu ?_);rw [hw.1,hw.2];have h1:(((0:Nat):Int) == 0 && (1:Int) == 1 && (items.size - 0) == items.size)=true:=by simp
 show wpAny _ _ (if (((0:Nat):Int) == 0 && (1:Int) == 1 && (items.size - 0) == items.size)=true then _ else _) _ _ s;rw [if_pos h1]
 wp_walk using wpAny_loadPart' hot,wpAny_load hot
 exact ⟨_,rfl,zaT h⟩
end
def fU:D->Option Int->Option Int->Option D
 | .tuple ts,lo,hi=>some (.tuple (bK ts lo hi))
 | _,_,_=>none
section
variable {X:Cx} {K:PySem.W.Frag}
def eB (hK:X.K=K):SlR X (rFs K fU 0):=by
 intro pins s σ H x v vl vu lo hi sl Q I rx hs pl pu ⟨O,a,t,oa,hd,hg,k⟩;cases a with
 | tuple ts =>
  by_cases hw:HT.sIx ts.length 0 lo=0/\HT.sIx ts.length ts.length hi=ts.length
  ·subst hK;obtain ⟨a,vs,rfl,fz,w⟩:=id oa.tup0;cases rx;obtain ⟨its,r,ht,hz⟩:=I.tuple fz.sq;have hlen:its.toArray.size=ts.length:=by rw [zai,<- w.len]; exact r.length.symm
   refine ⟨"tuple",_,PyProof.Rows.slot_tuple_getitem.lookup,ht.typeIs,?_⟩;refine jV ht hs pl pu (by rw [hlen]; exact hw) ⟨.ref a,H,I,rfl,k _ H NoA .refl ?_⟩;cases hg;have e:bK ts lo hi=ts:=by
    unfold bK;rw [hw.1,hw.2];simp
   rw [e,eJ];exact oa
  ·refine Ei hK pins s σ H x v vl vu lo hi sl Q I rx hs pl pu ⟨O,.tuple ts,t,oa,hd,?_,k⟩;cases hg;show grd _ _=_;unfold grd;rw [if_pos hw]
 | _=>cases hg
end
end L2
namespace L2
open PySem PySem.Spec PyProof.Rows
section
variable {P:Program} {w:World} {A:Around} {E:Value->Shared->Prop} {s:Shared}
end
section
variable {X:Cx} {K:PySem.W.Frag} {p p1 p2:Bool} {ds ds1 ds2:List Nat} {d d1 d2:Nat} {e k:Expr} {f f1 f2:ME} {fa:MA} {sh:Sh} {σ:St} {H:Hp} {Q Q':VK} {pos pos2 px py:Pos}
end
end L2
namespace L2
open PySem PySem.Spec PyProof.Rows PySem.SeqAt PySem.MeetsSeq
section
variable {X:Cx} {K:PySem.W.Frag}
end
section
variable {X:Cx} {K:PySem.W.Frag} {p p1 p2:Bool} {ds ds1 ds2:List Nat} {d d1 d2:Nat} {e:Expr} {f f1 f2:ME} {σ:St} {H:Hp} {Q Q':VK} {i:Nat}
end
section
variable {X:Cx} {K:PySem.W.Frag} {p p1 p2 q:Bool} {J:Jd} {ds ds0 ds1 ds2 ds' dsi dps:List Nat} {d d' d1 d2 dr:Nat} {a b c e tg iter:Expr} {es:List Expr} {st:Stmt} {rest body bodyB:List Stmt} {f f1 f2 fk fe:ME} {c1 c2:MT} {fa:MA} {sh:Sh} {pos px:Pos} {i:Nat} {x:Str} {m m1 m2:MS} {g:MG} {gs:List D->En->Option En} {fi:MI} {lk:List Nat}
end
end L2
namespace L2
open PySem PySem.Spec PyProof.Rows
section
variable {prog:Program} {w:World} {A:Around} {E:Value->Shared->Prop} {s:Shared}
end
section
variable {X:Cx} {tg:Expr} {K:PySem.W.Frag}
end
section
variable {X:Cx} {K:PySem.W.Frag} {p:Bool} {ds ds1:List Nat} {d:Nat} {fa:MA} {sh:Sh} {O O1:AS} {H0 H:Hp} {ts us:List D} {vs ws:List V} {a b:Addr}
def Gu (fa:MA):MI:=fun en=>(fa en).bind fun r=>match r.1 with
 | [.inl (.tuple ts),.inl (.tuple us)]=>some (rG ts us,r.2)
 | _=>none
end
section
variable {K:PySem.W.Frag} {p p1 p2 q:Bool} {J:Jd} {lk ds ds0 ds1 ds2 ds':List Nat} {d d' d1 d2:Nat} {f:ME} {i j:Nat} {g:MG} {gs:List D->En->Option En} {σ:St} {H:Hp} {Dn:Ends} {v:V} {vs:List V} {QS:St->Hp->Prop}
end
section
variable {X:Cx} {K:PySem.W.Frag} {J:Jd} {lk ds ds0 ds1 ds2 ds':List Nat} {e tg:Expr} {es:List Expr} {f:ME} {pos px:Pos} {i:Nat} {g:MG} {gs:List D->En->Option En}
end
section
variable {X:Cx} {K:PySem.W.Frag} {p:Bool} {ds:List Nat} {k v:Expr} {fk fv:ME} {pos:Pos} {σ:St} {H:Hp} {Q:VK} {O:AS}
end
structure QE (X:Cx) (e:Expr) (t:TE):Prop where
 h:PE X e t
structure QT (X:Cx) (e:Expr) (t:TT):Prop where
 h:PT X e t
structure QW (X:Cx) (e:Expr) (t:TT):Prop where
 h:PW X e t
structure QA (X:Cx) (e:List Expr) (t:TA):Prop where
 h:PA X e t
structure QS (X:Cx) (e:Stmt) (t:TS):Prop where
 h:PS X e t
structure QSs (X:Cx) (e:List Stmt) (t:TS):Prop where
 h:PSs X e t
structure QG (X:Cx) (e:Expr) (t:TG):Prop where
 h:PG X e t
structure QI (X:Cx) (tg e:Expr) (t:TI):Prop where
 h:PI X tg e t
structure QTs (X:Cx) (e:List Expr) (t:TT):Prop where
 h:PTs X e t
structure QO (X:Cx) (e:Option Expr) (t:TO):Prop where
 h:PO X e t
def qpt {X:Cx} {e:Expr} {t:TT} (h:QW X e t):QT X e t:=⟨h.h.pt⟩
section
variable {X:Cx} {K:PySem.W.Frag} {p p1 p2 q:Bool} {ds ds0 ds1 ds2 ds' dsi:List Nat} {d d' d1 d2:Nat} {a b c e:Expr} {es:List Expr} {f f1 f2:ME} {m c1 c2:MT} {fa:MA} {sh:Sh} {pos:Pos} {i:Nat} {x:Str}
def ko {x:Str} (hN:X.N[i]?=some x) (hv:Vis X.env.scope x) (h0:ds[i]?=some 0) (hd:(x == ("__debug__" : Str))=false) (hcd:(x == ("__classdict__" : Str))=false):QE X (.Name x pos) (tF K p ds ds 0 (af i)):=⟨Em hN hv h0 hd hcd⟩
def ae {n:Int} {j}:QE X (.Constant (.int n) j pos) (tF K p ds ds 3 (eC (.int n))):=⟨EA⟩
def bv {n:Bool} {j}:QE X (.Constant (.bool n) j pos) (tF K p ds ds 3 (eC (.bool n))):=⟨FE⟩
def cS {j}:QE X (.Constant .none j pos) (tF K p ds ds 3 (eC .none)):=⟨Ev⟩
def ai {n:Str} {j}:QE X (.Constant (.str n) j pos) (tF K p ds ds 3 (eC (.str n))):=⟨Er⟩
def b6 {x:Str} {n:Int} {t:Tok} (hg:Gl X x) (hm:X.mg x=some (.int n t)) (hd:(x == ("__debug__" : Str))=false):QE X (.Name x pos) (tF K p ds ds 3 (eC (.int n))):=⟨sE hg hm hd⟩
def eZ (h:QE X e (tF K p ds ds' d f)) (hd:d'<=d):QE X e (tF K p ds ds' d' f):=⟨Ep h.h hd⟩
def AO (h:QE X e (tF K p ds0 ds' d f)) (hd:leD ds0 ds=true):QE X e (tF K false ds ds' d f):=⟨FC h.h hd⟩
def kq (h:QE X e (tF K true ds0 ds0 3 f)) (hd:leD ds0 ds=true):QE X e (tF K p ds ds 3 f):=⟨ED h.h hd⟩
def ak {op:Operator} {g:D->D->Option D} (ho:OpR X (binaryOp op) (rF2 K g d)) (ha:QE X a (tF K p ds ds1 d1 f1)) (hb:QE X b (tF K p ds1 ds2 d2 f2)):QE X (.BinOp a op b pos) (tF K p ds ds2 d (e2 g f1 f2)):=⟨Fz ho ha.h hb.h⟩
def ix {op:UnaryOp} {g:D->Option D} (ho:UnR X (unaryOp op) (rF1 K g d)) (ha:QE X a (tF K p ds ds1 d1 f1)):QE X (.UnaryOp op a pos) (tF K p ds ds1 d (e1 g f1)):=⟨Fx ho ha.h⟩
def bN {op:CmpOp} {g:D->D->Option D} (ho:OpR X (compareOp op) (rF2 K g d)) (ha:QE X a (tF K p ds ds1 d1 f1)) (hb:QE X b (tF K p ds1 ds2 d2 f2)) (hm:behindInMarks op b=false):QE X (.Compare a [op] [b] pos) (tF K p ds ds2 d (e2 g f1 f2)):=⟨EC ho ha.h hb.h hm⟩
def bC {op:CmpOp} {g:D->D->Option D} (ho:OpR X (compareOp op) (rF2 K g d)) (ha:QE X a (tF K p ds ds1 d1 f1)) (hb:QE X b (tF K p ds1 ds2 d2 f2)) (hm:behindInMarks op b=false):QT X (.Compare a [op] [b] pos) (tFT K p ds ds2 (tV (e2 g f1 f2))):=⟨Av ho ha.h hb.h hm⟩
def bB (h:QE X e (tF K p ds ds' d f)) (he:∀ whole,isTrue e X.env whole=(do let v <- whole; standAt e.pos; holding [v] (truthy v))):QT X e (tFT K p ds ds' (tV f)):=⟨At h.h he⟩
def eA (ha:QT X a (tFT K p ds ds1 c1)):QW X (.BoolOp .And [a] pos) (tFT K p ds ds1 c1):=⟨Ap ha.h⟩
def cC (ha:QT X a (tFT K p ds ds1 c1)):QW X (.BoolOp .Or [a] pos) (tFT K p ds ds1 c1):=⟨D3 ha.h⟩
def eY {rest:List Expr} (ha:QT X a (tFT K p ds ds1 c1)) (hb:QW X (.BoolOp .And (b :: rest) pos) (tFT K p ds1 ds1 c2)):QW X (.BoolOp .And (a :: b :: rest) pos) (tFT K p ds ds1 (dN c1 c2)):=⟨D4 ha.h hb.h⟩
def bu {rest:List Expr} (ha:QT X a (tFT K p ds ds1 c1)) (hb:QW X (.BoolOp .Or (b :: rest) pos) (tFT K p ds1 ds1 c2)):QW X (.BoolOp .Or (a :: b :: rest) pos) (tFT K p ds ds1 (bOr c1 c2)):=⟨Fp ha.h hb.h⟩
def bL (ha:QT X a (tFT K p ds ds1 c1)):QT X (.UnaryOp .Not a pos) (tFT K p ds ds1 (di c1)):=⟨Au ha.h⟩
def bJ {op} (h:QE X a (tF K p ds ds1 d f)):QE X (.BoolOp op [a] pos) (tF K p ds ds1 d f):=⟨Es h.h⟩
def bw {rest:List Expr} (ha:QE X a (tF K p ds ds1 d1 f1)) (hb:QE X (.BoolOp .And (b :: rest) pos) (tF K p ds1 ds1 d f2)):QE X (.BoolOp .And (a :: b :: rest) pos) (tF K p ds ds1 d (cG f1 f2)):=⟨EF ha.h hb.h⟩
def oI {rest:List Expr} (ha:QE X a (tF K p ds ds1 d1 f1)) (hb:QE X (.BoolOp .Or (b :: rest) pos) (tF K p ds1 ds1 d f2)):QE X (.BoolOp .Or (a :: b :: rest) pos) (tF K p ds ds1 d (eOr f1 f2)):=⟨Fy ha.h hb.h⟩
def nE (ha:QE X a (tF K p ds ds1 d1 f)):QE X (.UnaryOp .Not a pos) (tF K p ds ds1 3 (kr f)):=⟨Eu ha.h⟩
def ad  : QA X [] (tFA K p ds ds [] ag):=⟨AU⟩
def aa (ha:QE X e (tF K p ds ds1 d f)) (hr:QA X es (tFA K p ds1 ds2 sh fa)) (hs:aN e=true):QA X (e :: es) (tFA K p ds ds2 (.inl d :: sh) (ac f fa)):=⟨sK ha.h hr.h hs⟩
def lb {x:Str} (hN:X.N[i]?=some x) (hv:Vis X.env.scope x) (hr:QA X es (tFA K p ds ds2 sh fa)) (hd:(x == ("__debug__" : Str))=false) (hcd:(x == ("__classdict__" : Str))=false):QA X (.Name x pos :: es) (tFA K p ds ds2 (.inr i :: sh) (aO i fa)):=⟨sJ hN hv hr.h hd hcd⟩
def aE {c:Nat} (h:QA X es (tFA K p ds ds1 sh fa)) (hs:bT c sh=true) (hd:dn d=c) (hz:d≠0):QE X (.List es pos) (tF K p ds ds1 d (aT fa)):=⟨Ew h.h hs hd hz⟩
def aj {c:Nat} {x1} (h:QA X es (tFA K p ds ds1 sh fa)) (hs:bT c sh=true) (hd:dn d=c):QE X (.Tuple es x1 pos) (tF K p ds ds1 d (av fa)):=⟨Eo h.h hs hd⟩
def la {id:String} {x:Str} {px:Pos} {g:List D->Option D} (hc:CallR X (.builtin id) (rFn K g d)) (hg:Gl X x) (hm:X.mg x=none) (hv:bootBuiltins x=some (.builtin id)) (ha:QA X (e :: es) (tFA K p ds ds1 sh fa)) (hsh:bT 0 sh=true) (hn:x≠"__name__") (hdb:(x == ("__debug__" : Str))=false) (he:aN e=true) (hpl:es.all aN=true):QE X (.Call (.Name x px) (e :: es) [] pos) (tF K p ds ds1 d (eN g fa)):=⟨sH hc hg hm hv ha.h hsh hn hdb he hpl⟩
def oi {T:String} {x:Str} {px:Pos} {g:List D->Option D} (hc:CallR X (.type T) (rFn K g d)) (hg:Gl X x) (hm:X.mg x=none) (hv:bootBuiltins x=some (.type T)) (ha:QA X (e :: es) (tFA K p ds ds1 sh fa)) (hsh:bT 0 sh=true) (hn:x≠"__name__") (hdb:(x == ("__debug__" : Str))=false) (he:aN e=true) (hpl:es.all aN=true):QE X (.Call (.Name x px) (e :: es) [] pos) (tF K p ds ds1 d (eN g fa)):=⟨qU hc hg hm hv ha.h hsh hn hdb he hpl⟩
def AQ {k:Nat} {x:Str} {ps:List Str} {px:Pos} {dps:List Nat} {dr:Nat} {F:List D->Option (D × En)} (G:Kn X.prog X.w X.K X.mg X.base k x ps (spF K dps dr F)) (hr:Room k X.A) (hg:Gl X x) (ha:QA X (e :: es) (tFA K p ds ds1 sh fa)) (hns:gi sh=true) (hcd:dS ds1 sh dps=true) (hdb:(x == ("__debug__" : Str))=false) (he:aN e=true) (hpl:es.all aN=true):QE X (.Call (.Name x px) (e :: es) [] pos) (tF K p ds ds1 dr (ar F fa)):=⟨FD G hr hg ha.h hns hcd hdb he hpl⟩
def sF {k:Nat} {x:Str} {ps:List Str} {px:Pos} {dps:List Nat} {dr:Nat} {F:List D->Option (D × En)} (G:Kn X.prog X.w X.K X.mg X.base k x ps (spF K dps dr F)) (hr:Room k X.A) (hg:Gl X x) (ha:QA X (e :: es) (tFA K false ds ds1 sh fa)) (hcd:dS ds1 sh dps=true) (hdb:(x == ("__debug__" : Str))=false) (he:aN e=true) (hpl:es.all aN=true):QE X (.Call (.Name x px) (e :: es) [] pos) (tF K false ds ds1 dr (ar F fa)):=⟨EB G hr hg ha.h hcd hdb he hpl⟩
def dC {g:D->D->Option D} (ho:IxR X (rF2 K g d)) (ha:QE X a (tF K p ds ds1 d1 f1)) (hb:QE X b (tF K p ds1 ds2 d2 f2)) (hs:iy b):QE X (.Subscript a b pos) (tF K p ds ds2 d (e2 g f1 f2)):=⟨FB ho ha.h hb.h hs⟩
def bW {x:Str} {px:Pos} (hK:X.K=K) (hN:X.N[i]?=some x) (hv:Vis X.env.scope x) (h1:ds1[i]?=some 1) (hb:QE X b (tF K p ds ds1 d1 f)) (hs:iy b) (hd:(x == ("__debug__" : Str))=false) (hcd:(x == ("__classdict__" : Str))=false):QE X (.Subscript (.Name x px) b pos) (tF K p ds ds1 0 (bY i f)):=⟨Ey hK hN hv h1 hb.h hs hd hcd⟩
def sI {c:Nat} {x:Str} {px apos cpos:Pos} (hK:X.K=K) (hN:X.N[i]?=some x) (hv:Vis X.env.scope x) (h1:ds1[i]?=some d) (he:QE X e (tF K false ds ds1 c f)) (hz:d≠0) (hc:dn d=c) (hd:(x == ("__debug__" : Str))=false) (hcd:(x == ("__classdict__" : Str))=false) (hbase:attributeBase (.Name x px) "append" X.env (eval (.Name x px) X.env)=eval (.Name x px) X.env) (hfew:((backTo cpos (starEach [e] X.env)).all (fun x=>!x.1) && (backToKw cpos (keywordEach [] X.env)).all (fun x=>x.1.isSome) && decide (([e]:List Expr).length+([]:List Keyword).length+(if ([]:List Keyword).isEmpty then 0 else 1) < 30))=true) (hline:(apos.endLine == cpos.line)=true) (hs:starEach [e] X.env=[(false,eval e X.env)]) (hplain:(backTo cpos (starEach [] X.env)).any (·.1)=false):QE X (.Call (.Attribute (.Name x px) "append" apos) [e] [] cpos) (tF K false ds ds1 3 (ku i f)):=⟨EE hK hN hv h1 he.h hz hc hd hcd hbase hfew hline hs hplain⟩
def k9 {c:Nat} {x:Str} {px apos cpos:Pos} (hK:X.K=K) (hN:X.N[i]?=some x) (hv:Vis X.env.scope x) (h1:ds1[i]?=some d) (he:QE X e (tF K false ds ds1 d1 f)) (hz:d≠0) (hc:dn d=c) (hd:(x == ("__debug__" : Str))=false) (hcd:(x == ("__classdict__" : Str))=false) (hbase:attributeBase (.Name x px) "pop" X.env (eval (.Name x px) X.env)=eval (.Name x px) X.env) (hfew:((backTo cpos (starEach [e] X.env)).all (fun x=>!x.1) && (backToKw cpos (keywordEach [] X.env)).all (fun x=>x.1.isSome) && decide (([e]:List Expr).length+([]:List Keyword).length+(if ([]:List Keyword).isEmpty then 0 else 1) < 30))=true) (hline:(apos.endLine == cpos.line)=true) (hs:starEach [e] X.env=[(false,eval e X.env)]) (hplain:(backTo cpos (starEach [] X.env)).any (·.1)=false):QE X (.Call (.Attribute (.Name x px) "pop" apos) [e] [] cpos) (tF K false ds ds1 c (eG i f)):=⟨sD hK hN hv h1 he.h hz hc hd hcd hbase hfew hline hs hplain⟩
def bi  : QTs X [] (tFT K p ds ds cY):=⟨Ar⟩
def mh (hc:QT X c (tFT K p ds ds1 c1)):QTs X [c] (tFT K p ds ds1 c1):=⟨Aq hc.h⟩
def cc {elt tg iter:Expr} {ifs:List Expr} {scope:Scope} {ns:List Str} {js:List (Option Nat)} {fi:MI} {g:MG} {lk:List Nat} {cd:Nat} (B:BlkOkC X scope ns js) (hc:X.calm=true) (hi:QI X tg iter (tFI K p ds ds1 fi)) (hg:∀ C cl s₀ H₀ fp,QG (a7 X scope ns C cl s₀ H₀ fp) tg (tFG K lk dsi dsi g)) (ht:∀ C cl s₀ H₀ fp,QTs (a7 X scope ns C cl s₀ H₀ fp) ifs (tFT K true dsi dsi c1)) (he:∀ C cl s₀ H₀ fp,QE (a7 X scope ns C cl s₀ H₀ fp) elt (tF K true dsi dsi cd f)) (hcap:ia ds1 js dsi=true) (hd:dn d=cd) (hz:d≠0) (hlk:lk=h9 js 0) (hs:∀ x,foldedSetIterable iter X.env x=pure x):QE X (.ListComp elt [⟨tg,iter,ifs,0⟩] scope pos) (tF K p ds ds1 d (eLC true fi g c1 f js)):=⟨FA B hc hi.h (fun C cl s₀ H₀ fp=>(hg C cl s₀ H₀ fp).h) (fun C cl s₀ H₀ fp=>(ht C cl s₀ H₀ fp).h) (fun C cl s₀ H₀ fp=>(he C cl s₀ H₀ fp).h) hcap hd hz hlk hs⟩
def iK {elt tg iter:Expr} {ifs:List Expr} {scope:Scope} {ns:List Str} {js:List (Option Nat)} {fi:MI} {g:MG} {lk:List Nat} {cd:Nat} (B:BlkOkC X scope ns js) (hc:X.calm=true) (hi:QI X tg iter (tFI K false ds ds1 fi)) (hg:∀ C cl s₀ H₀ fp,QG (a7 X scope ns C cl s₀ H₀ fp) tg (tFG K lk dsi dsi g)) (ht:∀ C cl s₀ H₀ fp,QTs (a7 X scope ns C cl s₀ H₀ fp) ifs (tFT K false dsi dsi c1)) (he:∀ C cl s₀ H₀ fp,QE (a7 X scope ns C cl s₀ H₀ fp) elt (tF K false dsi dsi cd f)) (hcap:ia ds1 js dsi=true) (hd:dn d=cd) (hz:d≠0) (hlk:lk=h9 js 0) (hs:∀ x,foldedSetIterable iter X.env x=pure x):QE X (.ListComp elt [⟨tg,iter,ifs,0⟩] scope pos) (tF K false ds ds1 d (eLC false fi g c1 f js)):=⟨Ex B hc hi.h (fun C cl s₀ H₀ fp=>(hg C cl s₀ H₀ fp).h) (fun C cl s₀ H₀ fp=>(ht C cl s₀ H₀ fp).h) (fun C cl s₀ H₀ fp=>(he C cl s₀ H₀ fp).h) hcap hd hz hlk hs⟩
end
section
variable {X:Cx} {K:PySem.W.Frag} {p p1 p2 q:Bool} {J:Jd} {ds ds0 ds1 ds2 ds' dsi dps:List Nat} {d d' d1 d2 dr:Nat} {a b c e tg iter:Expr} {es:List Expr} {st:Stmt} {rest body bodyB:List Stmt} {f f1 f2 fk fe:ME} {c1 c2:MT} {fa:MA} {sh:Sh} {pos px:Pos} {i:Nat} {x:Str} {m m1 m2:MS} {g:MG} {gs:List D->En->Option En} {fi:MI} {lk:List Nat}
def az  : QSs X [] (tFS K J ds ds aW):=⟨Ay⟩
def ah (h1:QS X st (tFS K J ds ds1 m1)) (h2:QSs X rest (tFS K J ds1 ds2 m2)):QSs X (st :: rest) (tFS K J ds ds2 (ao m1 m2)):=⟨sw h1.h h2.h⟩
def b7 (h1:QS X st (tFS K J ds ds1 m1)):QSs X [st] (tFS K J ds ds1 m1):=⟨Ax h1.h⟩
def qJ (h:QSs X rest (tFS K J ds ds2 m)) (hd:leD ds1 ds2=true):QSs X rest (tFS K J ds ds1 m):=⟨Aw h.h hd⟩
def qL (he:QE X e (tF K false ds ds1 d f)) (hs:swapsWith e none pos.line X.env=pure false):QS X (.Expr e pos) (tFS K J ds ds1 (lF f)):=⟨AD he.h hs⟩
def qK (he:QE X e (tF K false ds ds1 J.dr f)) (hd:leD J.dsr ds1=true):QS X (.Return (some e) pos) (tFS K J ds ds' (aD f)):=⟨AB he.h hd⟩
def aF (hc:QT X c (tFT K false ds ds1 c1)) (ha:QSs X body (tFS K J ds1 ds2 m1)) (hb:QSs X bodyB (tFS K J ds1 ds2 m2)):QS X (.If c body bodyB pos) (tFS K J ds ds2 (sIf c1 m1 m2)):=⟨Ef hc.h ha.h hb.h⟩
def cM {x:Str} {pos':Pos} (hN:X.N.Nodup) (hi:X.N[i]?=some x) (hx:Loc X.env.scope x) (he:QE X e (tF K false ds ds1 d f)) (hds:ds1.set i d=ds') (hl:i < ds1.length) (hk:i ∉ J.lk) (hs:swapsWith e (some (.Name x pos')) pos.line X.env=pure false) (hf:X.fn x=true\/X.env.scope.names.lookup x=some .local):QS X (.Assign [.Name x pos'] e pos) (tFS K J ds ds' (aA i f)):=⟨AA hN hi hx he.h hds hl hk hs hf⟩
def eF {c:Nat} {x:Str} {spos:Pos} {k:Expr} (hN:X.N[i]?=some x) (hv:Vis X.env.scope x) (he:QE X e (tF K false ds ds1 c fe)) (hk:QE X k (tF K false ds1 ds2 d2 fk)) (h1:ds2[i]?=some d) (hz:d≠0) (hc:dn d=c) (hdb:(x == ("__debug__" : Str))=false) (hcd:(x == ("__classdict__" : Str))=false) (ha:∀ v,assign (.Subscript (.Name x px) k spos) X.env v=(do
   let ov <- holding [v] (eval (.Name x px) X.env);let iv <- holding [v,ov] (eval k X.env)
   standAt spos
   holding [v,ov,iv] (setItem ov iv v)
   release [v,ov,iv] [])) (hs:swapsWithSole [.Subscript (.Name x px) k spos] e pos.line X.env=pure false) (hw:swappedStores [.Subscript (.Name x px) k spos] e X.env=pure none) (h2:(assignEach [.Subscript (.Name x px) k spos] X.env).map (·.2)=[assign (.Subscript (.Name x px) k spos) X.env]):QS X (.Assign [.Subscript (.Name x px) k spos] e pos) (tFS K J ds ds2 (dy i fk fe)):=⟨sx hN hv he.h hk.h h1 hz hc hdb hcd ha hs hw h2⟩
def aI {x:Str} (hN:X.N.Nodup) (hi:X.N[i]?=some x) (hx:Loc X.env.scope x) (hds:ds.set i 0=ds') (hl:i < ds.length) (hk:i ∉ lk) (hf:X.fn x=true\/X.env.scope.names.lookup x=some .local):QG X (.Name x pos) (tFG K lk ds ds' (gN i)):=⟨sA hN hi hx hds hl hk hf⟩
def cN (hc:X.calm=true) (hi:QI X tg iter (tFI K false ds ds1 fi)) (hg:QG X tg (tFG K J.lk ds1 ds2 g)) (hb:QSs X body (tFS K { J with dsl:=ds1 } ds2 ds1 m)) (hp:PassesOwn (model X.prog X.w) X.A X.env X.xe) (hs:∀ x,foldedSetIterable iter X.env x=pure x):QS X (.For tg iter body [] pos) (tFS K J ds ds1 (eU fi g m)):=⟨AC hc hi.h hg.h hb.h hp hs⟩
end
section
variable {X:Cx} {K:PySem.W.Frag} {p:Bool} {ds ds1:List Nat} {d:Nat} {e tg l:Expr} {f:ME} {fa:MA} {sh:Sh}
def bI (hK:X.K=K) (hl:QE X l (tF K p ds ds1 d f)):QI X tg l (tFI K p ds ds1 (c9 f)):=⟨Ek hK hl.h⟩
def b8 {a:Expr} {px pos:Pos} (hg:Gl X "range") (hm:X.mg "range"=none) (ha:QA X [a] (tFA K p ds ds1 sh fa)) (hs:aN a=true):QI X tg (.Call (.Name "range" px) [a] [] pos) (tFI K p ds ds1 (cx fa)):=⟨AL hg hm ha.h hs⟩
def qS {a b:Expr} {px pos:Pos} (hg:Gl X "range") (hm:X.mg "range"=none) (ha:QA X [a,b] (tFA K p ds ds1 sh fa)) (hs:aN a=true) (hs2:aN b=true):QI X tg (.Call (.Name "range" px) [a,b] [] pos) (tFI K p ds ds1 (jk fa)):=⟨AK hg hm ha.h hs hs2⟩
end
section
variable {X:Cx} {K:PySem.W.Frag} {p:Bool} {ds ds1:List Nat} {d1:Nat} {e:Expr} {f:ME}
def cj {T:Str} {n:String} {px pt pos:Pos} (hK:X.K=K) (hg:Gl X "isinstance") (hm:X.mg "isinstance"=none) (hgT:Gl X T) (hmT:X.mg T=none) (hbT:bootBuiltins T=some (.type n)) (hT:n∈["int", "bool", "str", "list", "tuple", "dict"]) (he:QE X e (tF K p ds ds1 d1 f)) (hnT:T≠"__name__") (hdT:(T == ("__debug__" : Str))=false) (hs1:starEach [e,.Name T pt] X.env=(false,eval e X.env) :: starEach [.Name T pt] X.env) (hs2:starEach [.Name T pt] X.env=(false,eval (.Name T pt) X.env) :: starEach [] X.env) (hpl:(backTo pos (starEach [.Name T pt] X.env)).any (·.1)=false):QE X (.Call (.Name "isinstance" px) [e,.Name T pt] [] pos) (tF K p ds ds1 3 (e1 (aC n) f)):=⟨Ez hK hg hm hgT hmT hbT hT he.h hnT hdT hs1 hs2 hpl⟩
end
section
variable {X:Cx} {K:PySem.W.Frag} {p:Bool} {J:Jd} {ds ds0 ds1 ds2 ds3 ds':List Nat} {d d' d1 d2 d3:Nat} {a b c e:Expr} {st:Stmt} {f f1 f2 f3:ME} {m:MS} {pos p2:Pos}
def fQ {op op':CmpOp} {g g':D->D->Option D} (ho:OpR X (compareOp op) (rF2 K g 3)) (ho':OpR X (compareOp op') (rF2 K g' 3)) (ha:QE X a (tF K p ds ds0 d1 f1)) (hb:QE X b (tF K p ds0 ds1 d2 f2)) (hc:QE X c (tF K p ds1 ds1 d3 f3)) (hm:lastMarks [op,op'] [b,c]=false):QE X (.Compare a [op,op'] [b,c] pos) (tF K p ds ds1 3 (eH g g' f1 f2 f3)):=⟨sG ho ho' ha.h hb.h hc.h hm⟩
def br  : QO X none (tFO K p ds ds cE):=⟨AH⟩
def bq (h:QE X e (tF K p ds ds1 d f)):QO X (some e) (tFO K p ds ds1 (cw f)):=⟨AF h.h⟩
variable {lo hi:MO}
def ba {g:D->Option Int->Option Int->Option D} {elo ehi:Option Expr} (hr:SlR X (rFs K g d)) (he:QE X e (tF K p ds ds1 d1 f)) (hl:QO X elo (tFO K p ds1 ds2 lo)) (hu:QO X ehi (tFO K p ds2 ds3 hi)):QE X (.Subscript e (.Slice elo ehi none p2) pos) (tF K p ds ds3 d (eSl g f lo hi)):=⟨sC hr he.h hl.h hu.h⟩
end
section
variable {X:Cx} {K:PySem.W.Frag} {p:Bool} {J:Jd} {ds ds0 ds1 ds2 ds':List Nat} {d d' d1 d2:Nat} {a b c e o k:Expr} {f f1 f2 fk fe:ME} {pos px spos:Pos} {i:Nat} {σ:St} {H:Hp} {Q:VK} {Dn:Ends}
def mj  : QE X (.Dict [] [] pos) (tF K p ds ds 3 jP):=⟨AR⟩
end
section
variable {X:Cx} {K:PySem.W.Frag} {p:Bool} {J:Jd} {ds ds0 ds1 ds2 ds':List Nat} {d d' d1 d2:Nat} {a b c e o k:Expr} {es:List Expr} {f f1 f2 fk fe:ME} {fa:MA} {sh:Sh} {pos px spos:Pos} {i j:Nat} {σ:St} {H:Hp} {Q:VK} {Dn:Ends}
end
section
variable {X:Cx} {K:PySem.W.Frag} {p:Bool} {ds ds1:List Nat} {O:AS} {H:Hp} {σ:St} {d:Nat} {f:ME} {i:Nat} {e:Expr} {Q:VK}
end
section
variable {X:Cx} {K:PySem.W.Frag} {p:Bool} {ds ds1:List Nat} {d:Nat} {fa:MA} {sh:Sh} {O O1:AS} {H0 H:Hp} {ts us:List D} {vs ws:List V} {a b:Addr}
end
section
variable {X:Cx} {K:PySem.W.Frag} {p:Bool} {ds ds1:List Nat} {d1:Nat} {e:Expr} {f:ME}
end
section
variable {X:Cx} {K:PySem.W.Frag} {p p1 p2:Bool} {ds ds1 ds2:List Nat} {d d1:Nat} {e:Expr} {f:ME} {fa:MA} {sh:Sh} {σ:St} {H:Hp} {Q:VK}
def cy {o:Expr} {es:List Expr} {name:Str} {id:String} {apos cpos:Pos} {r:V->List V->Hp->VK->Prop} {g:Str->List D->Option D} (hK:X.K=K) (slot:Slot "str" name id) (hty:typeOf (.builtin id)=pure (.type "method_descriptor")) (hm:MtR X id r) (hr:MtF K r g) (ho:QE X o (tF K p ds ds1 d1 f)) (ha:QA X (e :: es) (tFA K p ds1 ds2 sh fa)) (hsh:bT 0 sh=true) (hbase:attributeBase o name X.env (eval o X.env)=eval o X.env) (hfew:((backTo cpos (starEach (e :: es) X.env)).all (fun x=>!x.1) && (backToKw cpos (keywordEach [] X.env)).all (fun x=>x.1.isSome)
   && decide ((e :: es).length+([]:List Keyword).length+(if ([]:List Keyword).isEmpty then 0 else 1) < 30))=true) (hline:(apos.endLine == cpos.line)=true) (hs:starEach (e :: es) X.env=(false,eval e X.env) :: starEach es X.env) (hplain:(backTo cpos (starEach es X.env)).any (·.1)=false):QE X (.Call (.Attribute o name apos) (e :: es) [] cpos) (tF K p ds ds2 3 (eM g f fa)):=⟨AN hK slot hty hm hr ho.h ha.h hsh hbase hfew hline hs hplain⟩
end
section
variable {X:Cx} {K:PySem.W.Frag} {p p1 p2:Bool} {J:Jd} {ds ds1 ds2:List Nat} {H:Hp} {σ:St} {d d1 d2 i m:Nat} {f fk fe:ME} {mp:MP} {e b o:Expr} {Q:VK}
end
section
variable {X:Cx} {K:PySem.W.Frag} {p p1 p2:Bool} {ds ds1 ds2:List Nat} {d d1 d2:Nat} {e k:Expr} {f f1 f2:ME} {fa:MA} {sh:Sh} {σ:St} {H:Hp} {Q Q':VK} {pos pos2 px py:Pos}
def oh (hK:X.K=K) (hc:X.calm=true) (hg:Gl X "len") (hm:X.mg "len"=none) (hg2:Gl X "set") (hm2:X.mg "set"=none) (hb:bootBuiltins "len"=some (.builtin "len")) (hb2:bootBuiltins "set"=some (.type "set")) (he:QE X e (tF K p ds ds1 d1 f)) (hs:aN e=true):QE X (.Call (.Name "len" px) [.Call (.Name "set" py) [e] [] pos2] [] pos) (tF K p ds ds1 3 (e1 kT f)):=⟨qT hK hc hg hm hg2 hm2 hb hb2 he.h hs⟩
end
section
variable {X:Cx} {K:PySem.W.Frag} {p p1 p2:Bool} {ds ds1 ds2:List Nat} {d d1 d2:Nat} {a b:Expr} {f f1 f2:ME} {σ:St} {H:Hp} {Q Q':VK} {pos:Pos} {ta tb:TE} {rest:List Expr}
end
section
variable {X:Cx} {K:PySem.W.Frag} {p p1 p2:Bool} {ds ds1 ds2:List Nat} {d d1 d2:Nat} {a b:Expr} {f f1 f2:ME} {σ:St} {H:Hp} {Q Q':VK} {pos:Pos}
end
section
variable {X:Cx} {K:PySem.W.Frag} {p p1 p2:Bool} {ds ds1 ds2:List Nat} {d d1 d2:Nat} {e:Expr} {f f1 f2:ME} {σ:St} {H:Hp} {Q Q':VK}
end
section
variable {X:Cx} {K:PySem.W.Frag} {p:Bool} {ds ds1 ds2:List Nat} {d d1 d2:Nat} {e:Expr} {f f1 f2:ME} {σ:St} {H:Hp} {Q Q':VK}
end
section
variable {X:Cx} {K:PySem.W.Frag} {p p1 p2:Bool} {ds ds1 ds2:List Nat} {d d1 d2:Nat} {e k:Expr} {f f1 f2:ME} {fa:MA} {sh:Sh} {σ:St} {H:Hp} {Q Q':VK} {pos pos2 px py:Pos}
end
section
variable {X:Cx} {K:PySem.W.Frag} {p p1 p2:Bool} {ds ds1 ds2:List Nat} {d d1 d2:Nat} {e:Expr} {f f1 f2:ME} {σ:St} {H:Hp} {Q Q':VK} {i:Nat}
end
section
variable {X:Cx} {K:PySem.W.Frag} {p p1 p2 q:Bool} {J:Jd} {ds ds0 ds1 ds2 ds' dsi dps:List Nat} {d d' d1 d2 dr:Nat} {a b c e tg iter:Expr} {es:List Expr} {st:Stmt} {rest body bodyB:List Stmt} {f f1 f2 fk fe:ME} {c1 c2:MT} {fa:MA} {sh:Sh} {pos px:Pos} {i:Nat} {x:Str} {m m1 m2:MS} {g:MG} {gs:List D->En->Option En} {fi:MI} {lk:List Nat}
end
section
variable {X:Cx} {K:PySem.W.Frag} {p:Bool} {ds ds1:List Nat} {d:Nat} {fa:MA} {sh:Sh} {O O1:AS} {H0 H:Hp} {ts us:List D} {vs ws:List V} {a b:Addr}
end
section
variable {X:Cx} {K:PySem.W.Frag} {J:Jd} {lk ds ds0 ds1 ds2 ds':List Nat} {e tg:Expr} {es:List Expr} {f:ME} {pos px:Pos} {i:Nat} {g:MG} {gs:List D->En->Option En}
end
section
variable {X:Cx} {K:PySem.W.Frag} {p:Bool} {ds:List Nat} {k v:Expr} {fk fv:ME} {pos:Pos} {σ:St} {H:Hp} {Q:VK} {O:AS}
end
def Fun.okQ {P:Program} {w:World} {K:PySem.W.Frag} {mg:Str->Option Value} {base:Heap} {x qual:Str} {st:Stmt} {f:Addr} {fd:FuncData} {N ps:List Str} {k n dr:Nat} {dps ds0:List Nat} {J:Jd} {b:MS}
  (F:Fun K x qual st f fd) (S:FnScope N ps (ap st)) (hl:dps.length=ps.length) (hn:N.length - dps.length=n) (hJ:J=⟨nq dps,dps++List.replicate n 0,dr,[]⟩) (hd:ds0=dps++List.replicate n 0)
  (hb:∀ (cdv:Value) (A:Around) (outer:List Env) (s:Shared) (H:Hp) (E:XK),Room k (A.deeper (envOfC qual (ap st) s.heap.objs.size f cdv)) ->
   QSs (kw CX0 P w K mg base N qual (ap st) f cdv A outer s H E).nox (cH st) (tFS K J ds0 ds0 b)):FnOk P w K mg base CX0 (k+1) f fd ps (spF K dps dr (fnF n dps b)):=by
 subst hJ hd;exact F.ok S (fun vs H Q E h=>zQ hl h) fun cdv A outer s H vs Q E hr h=>⟨_,(hb cdv A outer s H E hr).h,AI hn h⟩
def DH (F:List D->Option (D × En)):Prop:=∀ ns:List Int,ns.length<=63->∃ outs,F [.list (ns.map .int)]=some (.bool true,outs)
def kI (K:PySem.W.Frag):Sp:=fun vs H Q _=>∃ (a:Addr) (ns:List Int),vs=[.ref a]/\SqL K H a (ns.map V.int)/\(∀ b,H b=none\/∃ o xs,H b=some (.frz o (.lst xs)))/\ns.length<=63/\∀ H':Hp,Q (.bl true) H'
def jZ {K:PySem.W.Frag} {O:AS} {H:Hp}:∀ ns:List Int,Ows K O H (ns.map .int) 0 (ns.map V.int) NoA
 | []=>rfl
 | n :: r=>⟨.int n,r.map V.int,NoA,NoA,rfl,fun _ z=>z,fun _ z=>z,fun _ z=>z.elim,rfl,jZ r⟩
def DG {K:PySem.W.Frag} {dr:Nat} {F:List D->Option (D × En)} (h:DH F) {vs:List V} {H:Hp} {Q:VK} {E:XK} (q:kI K vs H Q E):spF K [0] dr F vs H Q E:=by
 obtain ⟨a,ns,rfl,hs,_,hl,q⟩:=q;obtain ⟨outs,e⟩:=h ns hl;have fz:FzL K (fun _=>False) H a (ns.map V.int):=by
  rcases hs with hs | hs
  ·exact .inl ⟨hs,fun z=>z⟩
  ·exact .inr fun H'=>.inr hs
 have eO:Own (fun _=>NoA) NoA=(fun _=>False):=fV fun b=>⟨fun z=>z.elim (fun ⟨_,z⟩=>z) fun z=>z,fun z=>z.elim⟩;refine ⟨NoA,[.list (ns.map .int)],fun _=>NoA,.bool true,outs,⟨fun i t hi=>?_,fun _ _ _ z=>z.elim,fun _ _ z=>z.elim,fun b z=>?_,rfl,rfl⟩,e,fun v H' R' Fr _ o=>?_⟩
 ·cases i with
  | zero =>
   have:t=.list (ns.map .int):=by
    have h2:some (some (PyData.list (ns.map .int)))=some (some t):=hi;injection h2 with h3
    injection h3 with h4
    exact h4.symm
   subst this;refine ⟨.ref a,0,rfl,rfl,?_⟩;rw [eO];exact ⟨a,ns.map V.int,rfl,.inl ⟨rfl,fz,jZ ns⟩⟩
  | succ i=>simp at hi
 ·rw [eO] at z;exact z.elim
 ·rw [show v=.bl true from o];exact q H'
section
variable {c:MT} {b:MS} {en en1 en2:En} {fl:Fl} {t:D}
def fP {c:MT} {f:ME} {p:D->Bool} {F:D->D} {rest:En}:∀ (ts acc:List D) (o:Option D),(∀ t∈ts,c (some t :: rest)=some (p t,some t :: rest))->(∀ t∈ts,p t=true->f (some t :: rest)=some (F t,some t :: rest))->acc.length+ts.length<=sizeLine ->
  ∃ o',lcF (gN 0) c f ts acc (o :: rest)=some (acc++(ts.filter p).map F,o' :: rest)
 | [],acc,o,_,_,_=>⟨o,by simp [lcF]⟩
 | t :: ts,acc,o,hc,hf,hl=>by
  have hl':acc.length+(ts.length+1)<=sizeLine:=hl;cases hp:p t with
  | true =>
   obtain ⟨o',h⟩:=fP (c:=c) (f:=f) (p:=p) (F:=F) ts (acc++[F t]) (some t) (fun x hx=>hc x (zaj _ hx)) (fun x hx=>hf x (zaj _ hx)) (by rw [zae]; show acc.length+1+_<=_; omega);refine ⟨o',?_⟩;unfold lcF;show ((c (some t :: rest)).bind _)=_;rw [hc t zaq,hp];show ((f (some t :: rest)).bind _)=_;rw [hf t zaq hp];show (if acc.length < sizeLine then _ else _)=_;rw [if_pos (by omega)]
   dsimp only
   rw [h,List.filter_cons_of_pos hp];simp
  | false =>
   obtain ⟨o',h⟩:=fP (c:=c) (f:=f) (p:=p) (F:=F) ts acc (some t) (fun x hx=>hc x (zaj _ hx)) (fun x hx=>hf x (zaj _ hx)) (by omega);refine ⟨o',?_⟩;unfold lcF;show ((c (some t :: rest)).bind _)=_;rw [hc t zaq,hp];show lcF (gN 0) c f ts acc (some t :: rest)=_;rw [h,List.filter_cons_of_neg (by rw [hp]; decide)]
def Ak {f:ME} {F:D->D} {rest:En} (ts acc:List D) (o:Option D) (hf:∀ t∈ts,f (some t :: rest)=some (F t,some t :: rest)) (hl:acc.length+ts.length<=sizeLine) :
  ∃ o',lcF (gN 0) cY f ts acc (o :: rest)=some (acc++ts.map F,o' :: rest):=by
 obtain ⟨o',h⟩:=fP (c:=cY) (f:=f) (p:=fun _=>true) (F:=F) ts acc o (fun _ _=>rfl) (fun t ht _=>hf t ht) hl;rw [List.filter_eq_self.mpr (fun _ _=>rfl)] at h;exact ⟨o',h⟩
end
section
variable {c c1 c2:MT} {m1 m2 b:MS} {en en1 en2:En} {fl:Fl} {t t1 t2 u:D} {f f1 f2:ME} {g:D->D->Option D} {fa:MA} {i n:Nat} {x y:Bool} {F:List D->Option (D × En)} {as:List (D ⊕ Nat)} {ts:List D} {outs:En} {dps:List Nat}
def dg (h1:m1 en=some (.nx en1)) (h2:m2 en1=some fl):ao m1 m2 en=some fl:=by unfold ao; rw [h1]; exact h2
def qW (h1:m1 en=some (.rt t en1)):ao m1 m2 en=some (.rt t en1):=by unfold ao; rw [h1]; rfl
def nG {b:Bool} (h1:c en=some (b,en1)) (hb:b=true) (h2:m1 en1=some fl):sIf c m1 m2 en=some fl:=by unfold sIf; rw [h1,hb]; exact h2
def nH {b:Bool} (h1:c en=some (b,en1)) (hb:b=false) (h2:m2 en1=some fl):sIf c m1 m2 en=some fl:=by unfold sIf; rw [h1,hb]; exact h2
def ld (h:f en=some (t,en1)) (he:en1.set i (some t)=en2):aA i f en=some (.nx en2):=by unfold aA; rw [h,<- he]; rfl
def pL (h:f en=some (t,en1)):aD f en=some (.rt t en1):=by unfold aD; rw [h]; rfl
def bX (h1:f1 en=some (t1,en1)) (h2:f2 en1=some (t2,en2)) (h:g t1 t2=some u):e2 g f1 f2 en=some (u,en2):=by
 unfold e2;rw [h1];show (f2 en1).bind _=_;rw [h2];show (g t1 t2).map _=_;rw [h];rfl
def oJ {b:Bool} {r:Bool × En} (h1:c1 en=some (b,en1)) (hb:b=true) (h2:c2 en1=some r):dN c1 c2 en=some r:=by unfold dN; rw [h1,hb]; exact h2
def A0 {b:Bool} (h1:c1 en=some (b,en1)) (hb:b=false):dN c1 c2 en=some (false,en1):=by unfold dN; rw [h1,hb]; rfl
def iM {b:Bool} (h:f en=some (.bool b,en1)):tV f en=some (b,en1):=by unfold tV; rw [h]; rfl
def pM {g:List D->Option D} (h1:fa en=some (as,en1)) (h2:bH as=some ts) (h:g ts=some t):eN g fa en=some (t,en1):=by
 unfold eN;rw [h1];show (bH as).bind _=_;rw [h2];show (g ts).map _=_;rw [h];rfl
def pN {r:MA} (h1:f en=some (t,en1)) (h2:r en1=some (as,en2)):ac f r en=some (.inl t :: as,en2):=by
 unfold ac;rw [h1];show (r en1).map _=_;rw [h2];rfl
def qX (h1:fa en=some (as,en1)) (h2:bH as=some ts) (h:ts.length<=sizeLine):aT fa en=some (.list ts,en1):=by
 unfold aT;rw [h1];show (bH as).bind _=_;rw [h2];exact if_pos h
def aU:100<=sizeLine:=by rw [sizeLine_eq]; decide
def k7 (h:b (ts.map some++List.replicate n none)=some (.rt t en)):fnF n dps b ts=some (t,msk dps en):=by
 unfold fnF;rw [h];rfl
end
namespace Pen2
def cO:MS:=(aD (FS [((eC (.str "script")),(af 0)),((eC (.str "at")),(af 1)),((eC (.str "left")),(eC (.int 0)))]))
def F_law_pen:List D->Option (D × En):=fnF 0 [0,0] cO
end Pen2
end L2
namespace L2
open PySem PySem.Spec PyProof.Rows
def EO (a b:Int):eqD (.int a) (.int b)=some (.bool (a == b)):=by
 show grd _ _=_;unfold grd;rw [if_pos ⟨rfl,rfl,Nat.zero_le _⟩];simp only [peq]
def DB (a b:Int):neD (.int a) (.int b)=some (.bool (!(a == b))):=by
 show grd _ _=_;unfold grd;rw [if_pos ⟨rfl,rfl,Nat.zero_le _⟩];simp only [peq]
structure Df (K:PySem.W.Frag) (x:Str) (st:Stmt) (f:Addr):Prop where
 a:PySem.W.nsIn K mainGlobals x=some (some (.ref f))
 l:∃ oc od kV dc pm an cd ct sl,K.lookup f=some ⟨oc,od,.func (PySem.W.fnOf x x (dD st) (cH st) (ap st) .none kV dc pm an cd ct),sl⟩/\PySem.W.codeIn K cd x=true
 k:PySem.W.keepIn K (.ref f)=true
section
variable {P:Program} {w:World} {K:PySem.W.Frag} {mg:Str->Option Value} {base h:Heap} {k dr:Nat} {x:Str} {ps:List Str} {dps:List Nat} {f:Addr} {st:Stmt} {sp:Sp}
def Df.mk' {oc:Value} {od an:Option Addr} {sl:Array (Option Value)} {kV dc pm cd ct:Value} (a:PySem.W.nsIn K mainGlobals x=some (some (.ref f))) (l:K.lookup f=some ⟨oc,od,.func (PySem.W.fnOf x x (dD st) (cH st) (ap st) .none kV dc pm an cd ct),sl⟩) (c:PySem.W.codeIn K cd x=true) (k:PySem.W.keepIn K (.ref f)=true):Df K x st f :=
 ⟨a,⟨oc,od,kV,dc,pm,an,cd,ct,sl,l,c⟩,k⟩
def Df.kn (d:Df K x st f) (X:K.In h) (G:h.Ns mainGlobals mg) (b:∀ (kV doc pm:Value) (an:Option Addr) (cdv ct:Value) (us:List Value),us.length=ps.length->bindArgs (PySem.W.fnOf x x (dD st) (cH st) (ap st) .none kV doc pm an cdv ct) ⟨us,[]⟩=pure (ps.zip us))
  (ok:∀ fd,Fun K x x st f fd->FnOk P w K mg base CX0 k f fd ps sp):Kn P w K mg base k x ps sp:=by
 obtain ⟨_,_,_,_,_,_,_,_,_,l,c⟩:=d.l;have F:=nB (st:=st) l c d.k;exact ⟨_,_,ok _ F,za8 X G d.a,d.k,F.binds b⟩
def Df.none (d:Df K x st f) (X:K.In h) (G:h.Ns mainGlobals mg) (b:∀ (kV doc pm:Value) (an:Option Addr) (cdv ct:Value) (us:List Value),us.length=ps.length->bindArgs (PySem.W.fnOf x x (dD st) (cH st) (ap st) .none kV doc pm an cdv ct) ⟨us,[]⟩=pure (ps.zip us)) :
  Kn P w K mg base k x ps (spF K dps dr fun _=>Option.none):=by
 obtain ⟨_,_,_,_,_,_,_,_,_,l,c⟩:=d.l;have F:=nB (st:=st) l c d.k;exact Al (za8 X G d.a) d.k (F.binds b)
end
section
variable {X:Cx} {K:PySem.W.Frag} {p:Bool} {ds ds1 ds2 ds':List Nat} {d d1 d2:Nat} {a b e:Expr} {es:List Expr} {f f1 f2:ME} {fa:MA} {sh:Sh} {pos px:Pos} {x:Str} {J:Jd} {k dr:Nat} {ps:List Str} {dps:List Nat} {F:List D->Option (D × En)} {g:List D->Option D}
abbrev vck (X:Cx) (x:Str) (i:Nat) (n:NameKind):Prop:=(X.N[i]?,X.env.scope.names.lookup x,x == ("__debug__" : Str),x == ("__classdict__" : Str))=(some x,some n,false,false)
def fv (i:Nat) (h:vck X x i .local) (h0:ds[i]?=some 0):QE X (.Name x pos) (tF K p ds ds 0 (af i)):=by
 simp only [vck,za1] at h;exact ko h.1 (.inl h.2.1) h0 h.2.2.1 h.2.2.2
def fvc (i:Nat) (h:vck X x i .cell) (h0:ds[i]?=some 0):QE X (.Name x pos) (tF K p ds ds 0 (af i)):=by
 simp only [vck,za1] at h;exact ko h.1 (.inr (.inl h.2.1)) h0 h.2.2.1 h.2.2.2
def fsl (i:Nat) (hr:QA X es (tFA K p ds ds2 sh fa)) (h:vck X x i .local):QA X (.Name x pos :: es) (tFA K p ds ds2 (.inr i :: sh) (aO i fa)):=by
 simp only [vck,za1] at h;exact lb h.1 (.inl h.2.1) hr h.2.2.1 h.2.2.2
def cR (i:Nat) (hr:QA X es (tFA K p ds ds2 sh fa)) (h:vck X x i .cell):QA X (.Name x pos :: es) (tFA K p ds ds2 (.inr i :: sh) (aO i fa)):=by
 simp only [vck,za1] at h;exact lb h.1 (.inr (.inl h.2.1)) hr h.2.2.1 h.2.2.2
def fs0 (h:QE X e (tF K p ds ds' d f)):QE X e (tF K p ds ds' 0 f):=eZ h (Nat.zero_le _)
def frt (he:QE X e (tF K false ds ds1 J.dr f)) (hd:leD J.dsr ds1=true):QSs X [.Return (some e) pos] (tFS K J ds ds' (aD f)):=b7 (qK he hd)
abbrev cck (X:Cx) (x:Str) (e:Expr) (es:List Expr):Prop:=(X.env.kindOf x,x == ("__debug__" : Str),aN e,es.all aN)=(some .globalImplicit,false,true,true)
def fnn (G:Kn X.prog X.w X.K X.mg X.base k x ps (spF K dps dr F)) (hr:Room k X.A) (ha:QA X (e :: es) (tFA K p ds ds1 sh fa)) (h:cck X x e es) (h2:(gi sh,dS ds1 sh dps)=(true,true)):QE X (.Call (.Name x px) (e :: es) [] pos) (tF K p ds ds1 dr (ar F fa)):=by
 simp only [cck,za1] at h h2;exact AQ G hr h.1 ha h2.1 h2.2 h.2.1 h.2.2.1 h.2.2.2
def fns (G:Kn X.prog X.w X.K X.mg X.base k x ps (spF K dps dr F)) (hr:Room k X.A) (ha:QA X (e :: es) (tFA K false ds ds1 sh fa)) (h:cck X x e es) (h2:dS ds1 sh dps=true):QE X (.Call (.Name x px) (e :: es) [] pos) (tF K false ds ds1 dr (ar F fa)):=by
 simp only [cck,za1] at h;exact sF G hr h.1 ha h2 h.2.1 h.2.2.1 h.2.2.2
def fcb {id:String} (hc:CallR X (.builtin id) (rFn K g d)) (hm:X.mg x=none) (hv:bootBuiltins x=some (.builtin id)) (ha:QA X (e :: es) (tFA K p ds ds1 sh fa)) (h:cck X x e es) (h2:(bT 0 sh,x == ("__name__" : Str))=(true,false)):QE X (.Call (.Name x px) (e :: es) [] pos) (tF K p ds ds1 d (eN g fa)):=by
 simp only [cck,za1] at h h2;exact la hc h.1 hm hv ha h2.1 (by simpa using h2.2) h.2.1 h.2.2.1 h.2.2.2
def fct {id:String} (hc:CallR X (.type id) (rFn K g d)) (hm:X.mg x=none) (hv:bootBuiltins x=some (.type id)) (ha:QA X (e :: es) (tFA K p ds ds1 sh fa)) (h:cck X x e es) (h2:(bT 0 sh,x == ("__name__" : Str))=(true,false)):QE X (.Call (.Name x px) (e :: es) [] pos) (tF K p ds ds1 d (eN g fa)):=by
 simp only [cck,za1] at h h2;exact oi hc h.1 hm hv ha h2.1 (by simpa using h2.2) h.2.1 h.2.2.1 h.2.2.2
def fln (hK:X.K=K) (hm:X.mg "len"=none) (ha:QA X (e :: es) (tFA K p ds ds1 sh fa)) (h:cck X "len" e es) (h2:bT 0 sh=true):QE X (.Call (.Name "len" px) (e :: es) [] pos) (tF K p ds ds1 3 (eN aS fa)):=by
 simp only [cck,za1] at h;exact la (Eh hK) h.1 hm (by decide +kernel) ha h2 (by decide) h.2.1 h.2.2.1 h.2.2.2
def fte (hK:X.K=K) (hu:X.A.units+64 < cLine) (ha:QE X a (tF K p ds ds1 d1 f1)) (hb:QE X b (tF K p ds1 ds2 d2 f2)):QT X (.Compare a [.Eq] [b] pos) (tFT K p ds ds2 (tV (e2 eqD f1 f2))):=bC (gR hK hu) ha hb (bA _)
def ftn (hK:X.K=K) (hu:X.A.units+64 < cLine) (ha:QE X a (tF K p ds ds1 d1 f1)) (hb:QE X b (tF K p ds1 ds2 d2 f2)):QT X (.Compare a [.NotEq] [b] pos) (tFT K p ds ds2 (tV (e2 neD f1 f2))):=bC (Fu hK hu) ha hb (bA _)
def fxi {n:Int} {j:Nat} {q:Pos} (hK:X.K=K) (ha:QE X a (tF K p ds ds1 d1 f1)):QE X (.Subscript a (.Constant (.int n) j q) pos) (tF K p ds ds1 0 (e2 ixA f1 (eC (.int n)))):=dC (iJ hK) ha ae fun _ _=>rfl
def aM (i:Nat) (ds':List Nat) {pos':Pos} (hN:X.N.Nodup) (he:QE X e (tF K false ds ds1 d f)) (h:(X.N[i]?,X.env.scope.names.lookup x,X.fn x)=(some x,some .local,true)) (h2:(ds1.set i d,decide (i < ds1.length),J.lk.contains i)=(ds',true,false)) (hs:swapsWith e (some (.Name x pos')) pos.line X.env=pure false):QS X (.Assign [.Name x pos'] e pos) (tFS K J ds ds' (aA i f)):=by
 simp only [za1,decide_eq_true_eq] at h h2;exact cM hN h.1 (.inl h.2.1) he h2.1 h2.2.1 (by simpa using h2.2.2) hs (.inl h.2.2)
end
end L2
namespace L2
namespace Pen3
open PySem L2
def sl1000:1000<=sizeLine:=by rw [sizeLine_eq]; decide
def cO:MS:=(ao (aA 2 (eC (.int 0)))
 (ao (sIf (tV (e2 gtI (eN aS (ac (af 0) ag)) (eC (.int 0)))) (aA 2 (e2 ixA (af 0) (e2 cF (af 1) (eN aS (ac (af 0) ag))))) aW)
 (ao (sIf (dN (tV (e2 ltI (af 1) (eN aS (ac (af 0) ag)))) (tV (e2 geI (eN kA (ac (af 2) ag)) (e2 lG (eC (.int 10)) (eC (.int 18)))))) (aD (aT (ac (eN kA (ac (af 2) ag)) (ac (eC (.int 0)) (ac (eC (.int 0)) ag))))) aW)
 (aD (aT (ac (eC (.int 0)) (ac (e2 bp (e2 cF (af 2) (eC (.int 999999937))) (e2 df (eC (.int 70001)) (af 1))) (ac (eC (.int 0)) ag))))))))
def F_law_pen:List D->Option (D × En):=fnF 1 [0,0] cO
def dI:MS:=(ao (sIf (tV (e2 gtI (bY 0 (eC (.int 0))) (eC (.int 0)))) (ao (aA 2 (e2 cF (bY 0 (eC (.int 0))) (af 1)))
 (ao (dy 0 (eC (.int 0)) (e2 fR (bY 0 (eC (.int 0))) (af 1)))
 (aD (af 2)))) aW)
 (ao (dy 0 (eC (.int 2)) (e2 bp (bY 0 (eC (.int 2))) (eC (.int 1))))
 (ao (aA 3 (e2 cF (e2 bp (e2 bp (e2 df (bY 0 (eC (.int 1))) (eC (.int 48271))) (e2 df (bY 0 (eC (.int 2))) (eC (.int 39373)))) (eC (.int 11))) (eC (.int 2147483647))))
 (ao (aA 3 (e2 cF (e2 df (af 3) (e2 bp (e2 cF (af 3) (eC (.int 65521))) (bY 0 (eC (.int 2))))) (eC (.int 2147483629))))
 (aD (e2 cF (e2 fR (af 3) (eC (.int 64))) (af 1)))))))
def F_law_draw:List D->Option (D × En):=fnF 2 [1,0] dI
def dJ (a b c:Int):D:=.list [.int a,.int b,.int c]
def IsPen (t:D):Prop:=∃ a b c,t=dJ a b c
def draw_ok {p:D} {m:Int} (hp:IsPen p) (h3:0 < m) (h4:m < 1073741824):∃ r p',F_law_draw [p,.int m]=some (.int r,[some p',none])/\0<=r/\r < m/\IsPen p':=by
 obtain ⟨a,b,c,rfl⟩:=hp;have cd:∀ z,iX z m:=fun z=>⟨h3,h4⟩;have md:∀ z,cF (.int z) (.int m)=some (.int (z % m)):=fun z=>if_pos h3;have dv:∀ z,fR (.int z) (.int m)=some (.int (z / m)):=fun z=>if_pos (cd z);by_cases ha:0 < a
 ·refine ⟨a % m,dJ (a / m) b c,?_,Int.emod_nonneg _ (by omega),Int.emod_lt_of_pos _ h3,_,_,_,rfl⟩;refine k7 (b:=dI) (en:=[some (dJ (a / m) b c),some (.int m),some (.int (a % m)),none]) (qW (nG (b:=decide ((0:Int) < a)) rfl (zaB ha) (dg (en1:=[some (dJ a b c),some (.int m),some (.int (a % m)),none]) (ld (bX (t1:=.int a) (t2:=.int m) rfl rfl (md a)) rfl) (dg (en1:=[some (dJ (a / m) b c),some (.int m),some (.int (a % m)),none]) ?_ rfl))));unfold dy;rw [bX (t1:=.int a) (t2:=.int m) (f1:=bY 0 (eC (.int 0))) (f2:=af 1) (g:=fR) (en:=[some (dJ a b c),some (.int m),some (.int (a % m)),none]) (en1:=[some (dJ a b c),some (.int m),some (.int (a % m)),none]) (en2:=[some (dJ a b c),some (.int m),some (.int (a % m)),none]) rfl rfl (dv a)];rfl
 ·generalize g1:(b * 48271+(c+1) * 39373+11) % 2147483647=x;have x0:0<=x:=by omega
  have x1:x < 2147483647:=by omega
  generalize g2:x * (x % 65521+(c+1)) % 2147483629=y;refine ⟨y / 64 % m,dJ a b (c+1),?_,Int.emod_nonneg _ (by omega),Int.emod_lt_of_pos _ h3,_,_,_,rfl⟩;have c1:df (.int b) (.int 48271)=some (.int (b * 48271)):=if_pos (.inr (by decide));have c2:df (.int (c+1)) (.int 39373)=some (.int ((c+1) * 39373)):=if_pos (.inr (by decide));have c3:df (.int x) (.int (x % 65521+(c+1)))=some (.int (x * (x % 65521+(c+1)))):=if_pos (.inl (by constructor <;> omega));have c80:iX y 64:=⟨by decide,by decide⟩;have c8:fR (.int y) (.int 64)=some (.int (y / 64)):=by
   show (if iX y 64 then some (PyData.int (y / 64)) else none)=_;rw [if_pos c80]
  refine k7 (b:=dI) (en:=[some (dJ a b (c+1)),some (.int m),none,some (.int y)]) (dg (en1:=[some (dJ a b c),some (.int m),none,none]) (nH (b:=decide ((0:Int) < a)) rfl (zaA ha) rfl)
   (dg (en1:=[some (dJ a b (c+1)),some (.int m),none,none]) rfl
   (dg (en1:=[some (dJ a b (c+1)),some (.int m),none,some (.int x)]) (ld (bX (t2:=.int 2147483647) (bX (bX (bX (t1:=.int b) (t2:=.int 48271) rfl rfl c1) (bX (t1:=.int (c+1)) (t2:=.int 39373) rfl rfl c2) rfl) rfl rfl) rfl (by rw [<- g1]; rfl)) rfl)
   (dg (en1:=[some (dJ a b (c+1)),some (.int m),none,some (.int y)]) (ld (bX (t2:=.int 2147483629) (bX (t1:=.int x) (t2:=.int (x % 65521+(c+1))) rfl (bX (t1:=.int (x % 65521)) (t2:=.int (c+1)) rfl rfl rfl) c3) rfl (by rw [<- g2]; rfl)) rfl)
   (pL (bX (t2:=.int m) (bX (t1:=.int y) (t2:=.int 64) rfl rfl c8) rfl (md _)))))))
def pen_ok {ns:List Int} {k:Int} (h0:0<=k):∃ p,F_law_pen [.list (ns.map .int),.int k]=some (p,[none,none])/\IsPen p:=by
 have len:aS [.list (ns.map .int)]=some (.int ns.length):=by show some (PyData.int (ns.map PyData.int).length)=_; rw [zad]
 have ln:∀ (y:Option D),(eN aS (ac (af 0) ag)) [some (.list (ns.map .int)),some (.int k),y]=some (.int ns.length,[some (.list (ns.map .int)),some (.int k),y]):=fun y=>pM rfl rfl len;have mk0:CMul 70001 k:=.inl (by decide);have mk:df (.int 70001) (.int k)=some (.int (70001 * k)):=by
  show (if CMul 70001 k then some (PyData.int (70001 * k)) else none)=_;rw [if_pos mk0]
 have pw:lG (.int 10) (.int 18)=some (.int 1000000000000000000):=by
  show (if ik 10 18 then some (PyData.int (10 ^ Int.toNat 18)) else none)=_;rw [if_pos (by unfold ik; decide)]; rfl
 obtain ⟨c,st⟩:∃ c:Int,(sIf (tV (e2 gtI (eN aS (ac (af 0) ag)) (eC (.int 0)))) (aA 2 (e2 ixA (af 0) (e2 cF (af 1) (eN aS (ac (af 0) ag))))) aW) [some (.list (ns.map .int)),some (.int k),some (.int 0)]=some (.nx [some (.list (ns.map .int)),some (.int k),some (.int c)]):=by
  by_cases hn:(0:Int) < ns.length
  ·obtain ⟨j,ej⟩:∃ j:Nat,ixN ns.length (k % ns.length)=some j/\j < ns.length:=by
    have q1:0<=k % (ns.length:Int):=Int.emod_nonneg _ (by omega);have q2:k % (ns.length:Int) < ns.length:=Int.emod_lt_of_pos _ (by omega);exact ⟨(k % (ns.length:Int)).toNat,by unfold ixN; rw [if_pos q1,if_pos q2],by omega⟩
   obtain ⟨c,ec⟩:∃ c,ns[j]?=some c:=⟨_,zak ej.2⟩;have at1:ixA (.list (ns.map .int)) (.int (k % ns.length))=some (.int c):=by
    show atI _ _=_;unfold atI;rw [zad,ej.1];show (ns.map PyData.int)[j]?=_;rw [zao,ec];rfl
   have ml:cF (.int k) (.int ns.length)=some (.int (k % ns.length)):=if_pos hn;exact ⟨c,nG (iM (bX (ln _) rfl rfl)) (zaB hn) (ld (bX rfl (bX rfl (ln _) ml) at1) rfl)⟩
  ·exact ⟨0,nH (iM (bX (ln _) rfl rfl)) (zaA hn) rfl⟩
 obtain ⟨b,ab⟩:∃ b,kA [.int c]=some (.int b):=⟨if c < 0 then -c else c,rfl⟩;have l3:∀ x y z:D,[x,y,z].length<=sizeLine:=fun x y z=>zau (by show 3<=1000; decide) sl1000;have fin:(aD (aT (ac (eC (.int 0)) (ac (e2 bp (e2 cF (af 2) (eC (.int 999999937))) (e2 df (eC (.int 70001)) (af 1))) (ac (eC (.int 0)) ag))))) [some (.list (ns.map .int)),some (.int k),some (.int c)]=some (.rt (dJ 0 (c % 999999937+70001 * k) 0) [some (.list (ns.map .int)),some (.int k),some (.int c)]) :=
  pL (qX (pN rfl (pN (bX (t1:=.int (c % 999999937)) (t2:=.int (70001 * k)) rfl (bX rfl rfl mk) rfl) rfl)) rfl (l3 _ _ _))
 by_cases h1:(k < (ns.length:Int))/\(1000000000000000000<=b)
 ·refine ⟨dJ b 0 0,k7 (b:=cO) (en:=[some (.list (ns.map .int)),some (.int k),some (.int c)]) (dg (en1:=[some (.list (ns.map .int)),some (.int k),some (.int 0)]) rfl (dg st (qW (nG (b:=true) (oJ (b:=decide (k < (ns.length:Int))) (iM (bX rfl (ln _) rfl)) (zaB h1.1) (iM (bX (pM rfl rfl ab) (bX rfl rfl pw) (congrArg (fun q=>some (PyData.bool q)) (zaB h1.2))))) rfl (pL (qX (pN (pM rfl rfl ab) rfl) rfl (l3 _ _ _))))))),_,_,_,rfl⟩
 ·refine ⟨_,k7 (b:=cO) (en:=[some (.list (ns.map .int)),some (.int k),some (.int c)]) (dg (en1:=[some (.list (ns.map .int)),some (.int k),some (.int 0)]) rfl (dg st (dg (en1:=[some (.list (ns.map .int)),some (.int k),some (.int c)]) (nH (b:=false) ?_ rfl rfl) fin))),_,_,_,rfl⟩;by_cases h2:k < (ns.length:Int)
  ·exact oJ (b:=decide (k < (ns.length:Int))) (iM (bX rfl (ln _) rfl)) (zaB h2) (iM (bX (pM rfl rfl ab) (bX rfl rfl pw) (congrArg (fun q=>some (PyData.bool q)) (zaA fun z=>h1 ⟨h2,z⟩))))
  ·exact A0 (b:=decide (k < (ns.length:Int))) (iM (bX rfl (ln _) rfl)) (zaA h2)
end Pen3
end L2
namespace L2
open PySem PySem.Spec PyProof.Rows
structure W {α:Type} (x:Option α) (Q:α->Prop):Prop where
 ex:∃ a,x=some a/\Q a
def aB {α:Type} (a:α) (Q:α->Prop):W (some a) Q=Q a:=propext ⟨fun ⟨b,e,h⟩=>(zat e) ▸ h,fun h=>⟨a,rfl,h⟩⟩
def bm {α:Type} (Q:α->Prop):W (none:Option α) Q=False:=propext ⟨(fun ⟨b,e,h⟩=>by cases e),(fun h=>h.elim)⟩
def W.use {α:Type} {x:Option α} {P Q:α->Prop} (h:W x P) (k:∀ a,P a->Q a):W x Q :=
 let ⟨a,e,h⟩:=h.ex
 ⟨a,e,k a h⟩
def W.of {α:Type} {x:Option α} {P:α->Prop} {a:α} (e:x=some a) (h:P a):W x P:=⟨a,e,h⟩
def ay {α β:Type} (x:Option α) (f:α->Option β) (Q:β->Prop):W (x.bind f) Q=W x (fun a=>W (f a) Q):=by
 cases x with
 | none=>show W none _=_; rw [bm,bm]
 | some a=>show W (f a) Q=_; rw [aB]
def bD {α β:Type} (x:Option α) (f:α->β) (Q:β->Prop):W (x.map f) Q=W x (fun a=>Q (f a)):=by
 cases x with
 | none=>show W none _=_; rw [bm,bm]
 | some a=>show W (some (f a)) Q=_; rw [aB,aB]
def jQ {α:Type} (c:Prop) [Decidable c] (a:α) (Q:α->Prop):W (grd c a) Q=(c/\Q a):=by
 unfold grd;by_cases h:c
 ·rw [if_pos h,aB]; exact propext ⟨fun z=>⟨h,z⟩,fun z=>z.2⟩
 ·rw [if_neg h,bm]; exact propext ⟨fun z=>z.elim,fun z=>h z.1⟩
def fH {α:Type} (c:Prop) [Decidable c] (a:α) (Q:α->Prop):W (if c then some a else none) Q=(c/\Q a):=jQ c a Q
def pV {α:Type} (c:Prop) [Decidable c] (x:Option α) (Q:α->Prop):W (if c then x else none) Q=(c/\W x Q):=by
 by_cases h:c
 ·rw [if_pos h]; exact propext ⟨fun z=>⟨h,z⟩,fun z=>z.2⟩
 ·rw [if_neg h,bm]; exact propext ⟨fun z=>z.elim,fun z=>h z.1⟩
def gv (en:En) (i:Nat):Option D:=(en[i]?).join
def gX (ts:List D) (n:Int) (t:D):Option (List D):=(ixN ts.length n).map fun k=>ts.set k t
def o8 (ts:List D) (n:Int):Option (D × List D):=(seqIndex? n ts.length).bind fun k=>(ts[k]?).map fun t=>(t,ts.eraseIdx k)
def gY (i:Int) (n:Nat):List D:=(List.range n).map fun k=>.int (i+(k:Nat))
section
variable {α β:Type}
def pz (b:MS) (Q:Fl->Prop):Fl->Prop:=fun fl=>W (match fl with | .nx en1=>b en1 | .rt t en1=>some (.rt t en1) | .ct en1=>some (.ct en1)) Q
def DQ (i:Nat) (Q:Fl->Prop):D × En->Prop:=fun r=>Q (.nx (r.2.set i (some r.1)))
def DY (Q:Fl->Prop):D × En->Prop:=fun r=>Q (.nx r.2)
def DR (Q:Fl->Prop):D × En->Prop:=fun r=>Q (.rt r.1 r.2)
def kIf (f g:En->Option β) (Q:β->Prop):Bool × En->Prop:=fun r=>W (if r.1 then f r.2 else g r.2) Q
def DX (g:MG) (b:MS) (Q:Fl->Prop):List D × En->Prop:=fun r=>W (dL g b r.1 r.2) Q
def kX (g:MG) (b:MS) (ts:List D) (Q:Fl->Prop):Fl->Prop:=fun fl=>W (match fl with | .nx en2=>dL g b ts en2 | .ct en2=>dL g b ts en2 | .rt r en2=>some (.rt r en2)) Q
def zB (g:MG) (b:MS) (ts:List D) (Q:Fl->Prop):En->Prop:=fun en=>W (b en) (kX g b ts Q)
def sf (i:Nat) (en:En) (Q:Fl->Prop):List D->Prop:=fun ts=>Q (.nx (en.set i (some (.list ts))))
def kW (i:Nat) (t:D) (Q:Fl->Prop):D × En->Prop:=fun q=>W (match q.1,(q.2[i]?).join with | .int n,some (.list ts)=>(ixN ts.length n).map fun k=>.nx (q.2.set i (some (.list (ts.set k t)))) | _,_=>none) Q
def pv (i:Nat) (fk:ME) (Q:Fl->Prop):D × En->Prop:=fun r=>W (match (r.2[i]?).join with | some _=>((fk r.2).bind fun q=>(match q.1,(q.2[i]?).join with | .int n,some (.list ts)=>(ixN ts.length n).map fun k=>.nx (q.2.set i (some (.list (ts.set k r.1)))) | _,_=>none)) | none=>none) Q
def qD (i:Nat) (t:D) (fk:ME) (en:En) (Q:Fl->Prop):D->Prop:=fun _x=>W (fk en) (kW i t Q)
def nv (i:Nat) (t:D) (n:Int) (en:En) (Q:Fl->Prop):D->Prop:=fun x=>W (match x with | .list ts=>(ixN ts.length n).map fun k=>.nx (en.set i (some (.list (ts.set k t)))) | _=>none) Q
def eX (en:En) (Q:D × En->Prop):D->Prop:=fun t=>Q (t,en)
def k1 (g:D->Option D) (Q:D × En->Prop):D × En->Prop:=fun r=>W (g r.1) (eX r.2 Q)
def k2b (g:D->D->Option D) (t:D) (Q:D × En->Prop):D × En->Prop:=fun q=>W (g t q.1) (eX q.2 Q)
def k2 (g:D->D->Option D) (f:ME) (Q:D × En->Prop):D × En->Prop:=fun r=>W (f r.2) (k2b g r.1 Q)
def sm (g:ME) (Q:D × En->Prop):D × En->Prop:=fun r=>W (match r.1 with | .bool true=>g r.2 | .bool false=>some (.bool false,r.2) | _=>none) Q
def kOr (g:ME) (Q:D × En->Prop):D × En->Prop:=fun r=>W (match r.1 with | .bool true=>some (.bool true,r.2) | .bool false=>g r.2 | _=>none) Q
def DT (Q:D × En->Prop):D × En->Prop:=fun r=>W (match r.1 with | .bool b=>some (.bool (!b),r.2) | _=>none) Q
def kTV (Q:Bool × En->Prop):D × En->Prop:=fun r=>W (match r.1 with | .bool b=>some (b,r.2) | _=>none) Q
def pG (g:MT) (Q:Bool × En->Prop):Bool × En->Prop:=fun r=>W (if r.1 then g r.2 else some (false,r.2)) Q
def sk (g:MT) (Q:Bool × En->Prop):Bool × En->Prop:=fun r=>W (if r.1 then some (true,r.2) else g r.2) Q
def zE (Q:Bool × En->Prop):Bool × En->Prop:=fun r=>Q (!r.1,r.2)
def so (t:D) (Q:List (D ⊕ Nat) × En->Prop):List (D ⊕ Nat) × En->Prop:=fun y=>Q (.inl t :: y.1,y.2)
def kAC (r:MA) (Q:List (D ⊕ Nat) × En->Prop):D × En->Prop:=fun x=>W (r x.2) (so x.1 Q)
def sn (i:Nat) (Q:List (D ⊕ Nat) × En->Prop):List (D ⊕ Nat) × En->Prop:=fun y=>Q (.inr i :: y.1,y.2)
def kAS (i:Nat) (r:MA) (en:En) (Q:List (D ⊕ Nat) × En->Prop):D->Prop:=fun _x=>W (r en) (sn i Q)
def kN2 (g:List D->Option D) (en:En) (Q:D × En->Prop):List D->Prop:=fun ts=>W (g ts) (eX en Q)
def kN (g:List D->Option D) (Q:D × En->Prop):List (D ⊕ Nat) × En->Prop:=fun r=>W (bH r.1) (kN2 g r.2 Q)
def pC (en:En) (Q:D × En->Prop):List D->Prop:=fun ts=>W (if ts.length<=sizeLine then some (.list ts,en) else none) Q
def DU (Q:D × En->Prop):List (D ⊕ Nat) × En->Prop:=fun r=>W (bH r.1) (pC r.2 Q)
def pr (en:En) (Q:D × En->Prop):List D->Prop:=fun ts=>W (if ts.length<=sizeLine then some (.tuple ts,en) else none) Q
def DP (Q:D × En->Prop):List (D ⊕ Nat) × En->Prop:=fun r=>W (bH r.1) (pr r.2 Q)
def nw (as:List (D ⊕ Nat)) (en:En) (Q:D × En->Prop):D × En->Prop:=fun q=>Q (q.1,wb as q.2 en)
def ny (F:List D->Option (D × En)) (as:List (D ⊕ Nat)) (en:En) (Q:D × En->Prop):List D->Prop:=fun ts=>W (F ts) (nw as en Q)
def zC (F:List D->Option (D × En)) (Q:D × En->Prop):List (D ⊕ Nat) × En->Prop:=fun r=>W (eI r.1 r.2) (ny F r.1 r.2 Q)
def kFn (dps:List Nat) (Q:D × En->Prop):Fl->Prop:=fun fl=>W (match fl with | .rt t en=>some (t,msk dps en) | .nx en=>some (.none,msk dps en) | .ct _=>none) Q
def pE (q:Bool) (js:List (Option Nat)) (en:En) (Q:D × En->Prop):List D × En->Prop:=fun z=>Q (.list z.1,if q then en else wbB js z.2 en)
def kLC (q:Bool) (g:MG) (c:MT) (f:ME) (js:List (Option Nat)) (Q:D × En->Prop):List D × En->Prop:=fun r=>W (lcF g c f r.1 [] (de js r.2)) (pE q js r.2 Q)
def kL3 (g:MG) (c:MT) (f:ME) (ts acc:List D) (Q:List D × En->Prop):D × En->Prop:=fun q=>W (if acc.length < sizeLine then lcF g c f ts (acc++[q.1]) q.2 else none) Q
def kL2 (g:MG) (c:MT) (f:ME) (ts acc:List D) (Q:List D × En->Prop):Bool × En->Prop:=fun r=>W (if r.1 then (f r.2).bind fun q=>if acc.length < sizeLine then lcF g c f ts (acc++[q.1]) q.2 else none else lcF g c f ts acc r.2) Q
def kL1 (g:MG) (c:MT) (f:ME) (ts acc:List D) (Q:List D × En->Prop):En->Prop:=fun en=>W (c en) (kL2 g c f ts acc Q)
def pI (Q:List D × En->Prop):D × En->Prop:=fun r=>W ((zo r.1).map fun ts=>(ts,r.2)) Q
def kR1 (Q:List D × En->Prop):List (D ⊕ Nat) × En->Prop:=fun r=>W (match r.1 with | [.inl (.int j)]=>if -(2 ^ 62)<=j/\j < 2 ^ 62 then some ((List.range j.toNat).map fun k=>.int (0+(k:Nat)),r.2) else none | _=>none) Q
def kR2 (Q:List D × En->Prop):List (D ⊕ Nat) × En->Prop:=fun r=>W (match r.1 with | [.inl (.int i),.inl (.int j)]=>if -(2 ^ 62)<=i/\i < 2 ^ 62/\-(2 ^ 62)<=j/\j < 2 ^ 62 then some ((List.range (j - i).toNat).map fun k=>.int (i+(k:Nat)),r.2) else none | _=>none) Q
def qA (n:Int) (en:En) (Q:D × En->Prop):D->Prop:=fun x=>W (match x with | .list ts=>(atI ts n).map fun t=>(t,en) | _=>none) Q
def kU (i:Nat) (Q:D × En->Prop):D × En->Prop:=fun r=>W (match r.1,(r.2[i]?).join with | .int n,some (.list ts)=>(atI ts n).map fun t=>(t,r.2) | _,_=>none) Q
def zz (i:Nat) (f:ME) (en:En) (Q:D × En->Prop):D->Prop:=fun _x=>W (f en) (kU i Q)
def pH (i:Nat) (Q:D × En->Prop):D × En->Prop:=fun r=>W (match (r.2[i]?).join with | some (.list ts)=>if ts.length < sizeLine then some (PyData.none,r.2.set i (some (.list (ts++[r.1])))) else none | _=>none) Q
def zG (i:Nat) (t:D) (en:En) (Q:D × En->Prop):D->Prop:=fun x=>W (match x with | .list ts=>if ts.length < sizeLine then some (PyData.none,en.set i (some (.list (ts++[t])))) else none | _=>none) Q
def D0 (i:Nat) (f:ME) (en:En) (Q:D × En->Prop):D->Prop:=fun x=>W (match x with | .list _=>((f en).bind fun r=>(match (r.2[i]?).join with | some (.list ts)=>if ts.length < sizeLine then some (PyData.none,r.2.set i (some (.list (ts++[r.1])))) else none | _=>none)) | _=>none) Q
def pF (g:D->D->Option D) (t:D) (f:ME) (en:En) (Q:D × En->Prop):D->Prop:=fun x=>W (match x with | .bool true=>(f en).bind fun z=>(g t z.1).map fun t=>(t,z.2) | .bool false=>some (.bool false,en) | _=>none) Q
def sj (g g2:D->D->Option D) (f3:ME) (t:D) (Q:D × En->Prop):D × En->Prop:=fun q=>W (g t q.1) (pF g2 q.1 f3 q.2 Q)
def kCh (g g2:D->D->Option D) (f2 f3:ME) (Q:D × En->Prop):D × En->Prop:=fun r=>W (f2 r.2) (sj g g2 f3 r.1 Q)
def kOS (Q:Option Int × En->Prop):D × En->Prop:=fun r=>W (match r.1 with | .int i=>some (some i,r.2) | _=>none) Q
def sd (g:D->Option Int->Option Int->Option D) (t:D) (lo:Option Int) (Q:D × En->Prop):Option Int × En->Prop:=fun h=>W (g t lo h.1) (eX h.2 Q)
def se (g:D->Option Int->Option Int->Option D) (t:D) (hi:MO) (Q:D × En->Prop):Option Int × En->Prop:=fun l=>W (hi l.2) (sd g t l.1 Q)
def kSl (g:D->Option Int->Option Int->Option D) (lo hi:MO) (Q:D × En->Prop):D × En->Prop:=fun r=>W (lo r.2) (se g r.1 hi Q)
def kM2 (g:Str->List D->Option D) (z:Str) (en:En) (Q:D × En->Prop):List D->Prop:=fun ts=>W (g z ts) (eX en Q)
def kM1 (g:Str->List D->Option D) (z:Str) (Q:D × En->Prop):List (D ⊕ Nat) × En->Prop:=fun q=>W (bH q.1) (kM2 g z q.2 Q)
def kM (g:Str->List D->Option D) (fa:MA) (Q:D × En->Prop):D × En->Prop:=fun r=>W (match r.1 with | .str z=>(fa r.2).bind fun q=>(bH q.1).bind fun ts=>(g z ts).map fun t=>(t,q.2) | _=>none) Q
def kIt (J:En->Prop) (Q:Fl->Prop):Fl->Prop:=fun fl=>match fl with | .nx e=>J e | .ct e=>J e | .rt t e=>Q (.rt t e)
def si (us:List D) (J:List D->En->Prop):D × En->Prop:=fun r=>J (us++[r.1]) r.2
def pD (f:ME) (us:List D) (J:List D->En->Prop):Bool × En->Prop:=fun r=>if r.1 then W (f r.2) (si us J) else J us r.2
def DW (c:MT) (f:ME) (us:List D) (J:List D->En->Prop):En->Prop:=fun en=>W (c en) (pD f us J)
def kWh (b:MS) (J:En->Prop) (Q:Fl->Prop):Bool × En->Prop:=fun r=>if r.1 then W (b r.2) (kIt J Q) else Q (.nx r.2)
def kFg (b:MS) (J:En->Prop) (Q:Fl->Prop):En->Prop:=fun en=>W (b en) (kIt J Q)
def zA (i:Nat) (en:En) (Q:D × En->Prop):D × List D->Prop:=fun r=>Q (r.1,en.set i (some (.list r.2)))
def pA (i:Nat) (n:Int) (en:En) (Q:D × En->Prop):D->Prop:=fun x=>W (match x with | .list ts=>(if -(2 ^ 63)<=n/\n < 2 ^ 63 then (seqIndex? n ts.length).bind fun k=>(ts[k]?).map fun t=>(t,en.set i (some (.list (ts.eraseIdx k)))) else none) | _=>none) Q
def pB (i:Nat) (Q:D × En->Prop):D × En->Prop:=fun r=>W (match r.1,(r.2[i]?).join with | .int n,some (.list ts)=>(if -(2 ^ 63)<=n/\n < 2 ^ 63 then (seqIndex? n ts.length).bind fun k=>(ts[k]?).map fun t=>(t,r.2.set i (some (.list (ts.eraseIdx k)))) else none) | _,_=>none) Q
def DS (i:Nat) (f:ME) (en:En) (Q:D × En->Prop):D->Prop:=fun x=>W (match x with | .list _=>(f en).bind (fun r=>match r.1,(r.2[i]?).join with | .int n,some (.list ts)=>(if -(2 ^ 63)<=n/\n < 2 ^ 63 then (seqIndex? n ts.length).bind fun k=>(ts[k]?).map fun t=>(t,r.2.set i (some (.list (ts.eraseIdx k)))) else none) | _,_=>none) | _=>none) Q
def kS1 (Q:D->Prop):Nat->Prop:=fun c=>Q (.str (mk1 c))
def kY (t:D) (Q:List D->Prop):List D->Prop:=fun ts=>Q (t :: ts)
def DZ (r:List (D ⊕ Nat)) (en:En) (Q:List D->Prop):D->Prop:=fun t=>W (eI r en) (kY t Q)
def bc {α:Type} (ts:List α) (n:Nat):atI ts (n:Int)=ts[n]?:=by
 unfold atI ixN;rw [if_pos (by omega)];by_cases h:n < ts.length
 ·rw [if_pos (by omega)]; rfl
 ·rw [if_neg (by omega),List.getElem?_eq_none (by omega)]; rfl
def eT {ts:List D} {t:D} (n:Nat) (h:n < ts.length):gX ts (n:Int) t=some (ts.set n t):=by
 unfold gX ixN;rw [if_pos (by omega),if_pos (by omega)];rfl
def A2 (x:D) (l:List D):bK (x :: l) (some 1) none=l:=by
 unfold bK;rw [HT.sIx_none,show (some (1:Int))=some ((1:Nat):Int) from rfl,HT.sIx_nat,Nat.min_eq_left (by simp),List.drop_one];exact List.take_of_length_le (by simp)
def FV (x:D) (l:List D):(HT.sIx (x :: l).length 0 (some 1)=0)=False:=by
 rw [show (some (1:Int))=some ((1:Nat):Int) from rfl,HT.sIx_nat,Nat.min_eq_left (by simp)];exact eq_false (by decide)
def oE (a b:Int):(a == b)=decide (a=b):=by
 by_cases h:a=b
 ·rw [h,zaB rfl]; exact beq_self_eq_true b
 ·rw [zaA h]; exact beq_eq_false_iff_ne.mpr h
def A1 (a b:Bool):eqD (.bool a) (.bool b)=some (.bool (a == b)):=by
 show grd _ _=_;unfold grd;rw [if_pos ⟨rfl,rfl,Nat.zero_le _⟩];simp only [peq]
def Ah (a b:Bool):neD (.bool a) (.bool b)=some (.bool (!(a == b))):=by
 show grd _ _=_;unfold grd;rw [if_pos ⟨rfl,rfl,Nat.zero_le _⟩];simp only [peq]
def lE (a b:Str):(a == b)=decide (a=b):=by
 by_cases h:a=b
 ·rw [h,zaB rfl]; exact beq_self_eq_true b
 ·rw [zaA h]; exact beq_eq_false_iff_ne.mpr h
def EM (a b:Str):eqD (.str a) (.str b)=some (.bool (decide (a=b))):=by
 show grd _ _=_;unfold grd;rw [if_pos ⟨rfl,rfl,Nat.zero_le _⟩,<- lE];simp only [peq]
def Dz (a b:Str):neD (.str a) (.str b)=some (.bool (!decide (a=b))):=by
 show grd _ _=_;unfold grd;rw [if_pos ⟨rfl,rfl,Nat.zero_le _⟩,<- lE];simp only [peq]
def EN:eqD (.list []) (.list [])=some (.bool true):=by
 show grd _ _=_;unfold grd;rw [if_pos ⟨rfl,rfl,by decide⟩];rfl
def DA:neD (.list []) (.list [])=some (.bool false):=by
 show grd _ _=_;unfold grd;rw [if_pos ⟨rfl,rfl,by decide⟩];rfl
variable (en:En) (Qs:Fl->Prop) (Qe:D × En->Prop) (Qb:Bool × En->Prop) (Qa:List (D ⊕ Nat) × En->Prop) (Ql:List D × En->Prop) (Qd:D->Prop) (Qt:List D->Prop) (Qn:En->Prop) (f:ME) (g:MG) (fa:MA) (c:MT) (ts:List D) (i:Nat)
def ws0 (α:Type) (a:α) (Q:α->Prop):W (some a) Q=Q a:=aB _ _
def ws1 (α:Type) (Q:α->Prop):W (none:Option α) Q=False:=bm _
def ws2 (α:Type) (c:Prop) (_:Decidable c) (a:α) (Q:α->Prop):W (grd c a) Q=(c/\Q a):=jQ c a Q
def ws3 (a:Option D) (l:En):gv (a :: l) 0=a:=rfl
def ws4 (a:Option D) (l:En):gv (a :: l) (i+1)=gv l i:=rfl
def ws5 (a b:Option D) (l:En):List.set (a :: l) 0 b=b :: l:=rfl
def ws6 (a b:Option D) (l:En):List.set (a :: l) (i+1) b=a :: List.set l i b:=rfl
def ws7 (a b:MS):W (ao a b en) Qs=W (a en) (pz b Qs):=ay _ _ _
def ws8 (b:MS):pz b Qs (.nx en)=W (b en) Qs:=rfl
def ws9 (b:MS) (t:D):pz b Qs (.rt t en)=Qs (.rt t en):=aB _ _
def CP (b:MS):pz b Qs (.ct en)=Qs (.ct en):=aB _ _
def CO:W (aA i f en) Qs=W (f en) (DQ i Qs):=bD _ _ _
def CN (t:D):DQ i Qs (t,en)=Qs (.nx (en.set i (some t))):=rfl
def CM:W (lF f en) Qs=W (f en) (DY Qs):=bD _ _ _
def CL (t:D):DY Qs (t,en)=Qs (.nx en):=rfl
def CK:W (aD f en) Qs=W (f en) (DR Qs):=bD _ _ _
def CJ (t:D):DR Qs (t,en)=Qs (.rt t en):=rfl
def CI:W (aW en) Qs=Qs (.nx en):=aB _ _
def CH (a b:MS):W (sIf c a b en) Qs=W (c en) (kIf a b Qs):=ay _ _ _
def CG (β:Type) (a b:En->Option β) (Q:β->Prop):kIf a b Q (true,en)=W (a en) Q:=rfl
def CF (β:Type) (a b:En->Option β) (Q:β->Prop):kIf a b Q (false,en)=W (b en) Q:=rfl
def CD (fi:MI) (b:MS):W (eU fi g b en) Qs=W (fi en) (DX g b Qs):=ay _ _ _
def CC (b:MS):DX g b Qs (ts,en)=W (dL g b ts en) Qs:=rfl
def CB (b:MS):W (dL g b [] en) Qs=Qs (.nx en):=aB _ _
def CA (b:MS) (t:D):W (dL g b (t :: ts) en) Qs=W (g t en) (zB g b ts Qs):=(ay _ _ _).trans (congrArg _ (funext fun z=>ay _ _ _))
def Cz (b:MS):zB g b ts Qs en=W (b en) (kX g b ts Qs):=rfl
def Cy (b:MS):kX g b ts Qs (.nx en)=W (dL g b ts en) Qs:=rfl
def Cw (b:MS):kX g b ts Qs (.ct en)=W (dL g b ts en) Qs:=rfl
def Cv (b:MS) (t:D):kX g b ts Qs (.rt t en)=Qs (.rt t en):=aB _ _
def Cu (t:D):W (gN i t en) Qn=Qn (en.set i (some t)):=aB _ _
def Cs (fk fe:ME):W (dy i fk fe en) Qs=W (fe en) (pv i fk Qs):=ay _ _ _
def Cr (fk:ME) (t:D):pv i fk Qs (t,en)=W (gv en i) (qD i t fk en Qs):=by unfold pv gv; cases h:(en[i]?).join with | none=>simp only [h,bm] | some x=>simp only [h,aB]; exact ay _ _ _
def Cq (t:D) (fk:ME) (x:D):qD i t fk en Qs x=W (fk en) (kW i t Qs):=rfl
def Cp (t:D) (n:Int):kW i t Qs (.int n,en)=W (gv en i) (nv i t n en Qs):=by unfold kW gv; cases h:(en[i]?).join with | none=>simp only [h,bm] | some x=>simp only [h,aB]; cases x <;> first | rfl | exact (aB _ _).symm | (rw [aB]; rfl) | (rw [aB]; exact bm _)
def Co (t:D) (n:Int):nv i t n en Qs (.list ts)=W (gX ts n t) (sf i en Qs):=by unfold nv gX sf; dsimp only; rw [bD,bD]
def Cn:sf i en Qs ts=Qs (.nx (en.set i (some (.list ts)))):=rfl
def Cm (x0 t:D) (l:List D):gX (x0 :: l) 0 t=some (t :: l):=eT 0 (by simp only [zac]; omega)
def Ck (x0 x1 t:D) (l:List D):gX (x0 :: x1 :: l) 1 t=some (x0 :: t :: l):=eT 1 (by simp only [zac]; omega)
def Cj (x0 x1 x2 t:D) (l:List D):gX (x0 :: x1 :: x2 :: l) 2 t=some (x0 :: x1 :: t :: l):=eT 2 (by simp only [zac]; omega)
def Ci (x0 x1 x2 x3 t:D) (l:List D):gX (x0 :: x1 :: x2 :: x3 :: l) 3 t=some (x0 :: x1 :: x2 :: t :: l):=eT 3 (by simp only [zac]; omega)
def Ch (x0 x1 x2 x3 x4 t:D) (l:List D):gX (x0 :: x1 :: x2 :: x3 :: x4 :: l) 4 t=some (x0 :: x1 :: x2 :: x3 :: t :: l):=eT 4 (by simp only [zac]; omega)
def Cg (x0 x1 x2 x3 x4 x5 t:D) (l:List D):gX (x0 :: x1 :: x2 :: x3 :: x4 :: x5 :: l) 5 t=some (x0 :: x1 :: x2 :: x3 :: x4 :: t :: l):=eT 5 (by simp only [zac]; omega)
def Cf:W (af i en) Qe=W (gv en i) (eX en Qe):=bD _ _ _
def Ce (t:D):eX en Qe t=Qe (t,en):=rfl
def Cd (t:D):W (eC t en) Qe=Qe (t,en):=aB _ _
def Cc (g:D->Option D):W (e1 g f en) Qe=W (f en) (k1 g Qe):=(ay _ _ _).trans (congrArg _ (funext fun z=>bD _ _ _))
def Cb (g:D->Option D) (t:D):k1 g Qe (t,en)=W (g t) (eX en Qe):=rfl
def Ca (g:D->D->Option D) (f1 f2:ME):W (e2 g f1 f2 en) Qe=W (f1 en) (k2 g f2 Qe):=(ay _ _ _).trans (congrArg _ (funext fun z=>(ay _ _ _).trans (congrArg _ (funext fun y=>bD _ _ _))))
def B9 (g:D->D->Option D) (f2:ME) (t:D):k2 g f2 Qe (t,en)=W (f2 en) (k2b g t Qe):=rfl
def B8 (g:D->D->Option D) (t u:D):k2b g t Qe (u,en)=W (g t u) (eX en Qe):=rfl
def B7 (f g:ME):W (cG f g en) Qe=W (f en) (sm g Qe):=ay _ _ _
def B6 (g:ME):sm g Qe (.bool true,en)=W (g en) Qe:=rfl
def B5 (g:ME):sm g Qe (.bool false,en)=Qe (.bool false,en):=aB _ _
def B4 (f g:ME):W (eOr f g en) Qe=W (f en) (kOr g Qe):=ay _ _ _
def B3 (g:ME):kOr g Qe (.bool true,en)=Qe (.bool true,en):=aB _ _
def B2 (g:ME):kOr g Qe (.bool false,en)=W (g en) Qe:=rfl
def B1:W (kr f en) Qe=W (f en) (DT Qe):=ay _ _ _
def B0 (x:Bool):DT Qe (.bool x,en)=Qe (.bool (!x),en):=aB _ _
def BZ:W (tV f en) Qb=W (f en) (kTV Qb):=ay _ _ _
def BY (x:Bool):kTV Qb (.bool x,en)=Qb (x,en):=aB _ _
def BX (f g:MT):W (dN f g en) Qb=W (f en) (pG g Qb):=ay _ _ _
def BW (g:MT):pG g Qb (true,en)=W (g en) Qb:=rfl
def BV (g:MT):pG g Qb (false,en)=Qb (false,en):=aB _ _
def BU (f g:MT):W (bOr f g en) Qb=W (f en) (sk g Qb):=ay _ _ _
def BT (g:MT):sk g Qb (true,en)=Qb (true,en):=aB _ _
def BS (g:MT):sk g Qb (false,en)=W (g en) Qb:=rfl
def BR (f:MT):W (di f en) Qb=W (f en) (zE Qb):=bD _ _ _
def BQ (x:Bool):zE Qb (x,en)=Qb (!x,en):=rfl
def BP:W (cY en) Qb=Qb (true,en):=aB _ _
def BO:W (ag en) Qa=Qa ([],en):=aB _ _
def BN (r:MA):W (ac f r en) Qa=W (f en) (kAC r Qa):=(ay _ _ _).trans (congrArg _ (funext fun z=>bD _ _ _))
def BM (r:MA) (t:D):kAC r Qa (t,en)=W (r en) (so t Qa):=rfl
def BL (t:D) (as:List (D ⊕ Nat)):so t Qa (as,en)=Qa (.inl t :: as,en):=rfl
def BK (r:MA):W (aO i r en) Qa=W (gv en i) (kAS i r en Qa):=(ay _ _ _).trans (congrArg _ (funext fun z=>bD _ _ _))
def BJ (r:MA) (t:D):kAS i r en Qa t=W (r en) (sn i Qa):=rfl
def BI (as:List (D ⊕ Nat)):sn i Qa (as,en)=Qa (.inr i :: as,en):=rfl
def BH:bH []=some []:=rfl
def BG (t:D) (r:List (D ⊕ Nat)):W (bH (.inl t :: r)) Qt=W (bH r) (kY t Qt):=bD _ _ _
def BF (t:D):kY t Qt ts=Qt (t :: ts):=rfl
def BE:eI [] en=some []:=rfl
def BD (t:D) (r:List (D ⊕ Nat)):W (eI (.inl t :: r) en) Qt=W (eI r en) (kY t Qt):=bD _ _ _
def BC (r:List (D ⊕ Nat)):W (eI (.inr i :: r) en) Qt=W (gv en i) (DZ r en Qt):=(ay _ _ _).trans (congrArg _ (funext fun z=>bD _ _ _))
def BB (t:D) (r:List (D ⊕ Nat)):DZ r en Qt t=W (eI r en) (kY t Qt):=rfl
def BA (r:List (D ⊕ Nat)) (o:Option D) (outs:En):wb (.inr i :: r) (o :: outs) en=wb r outs (en.set i o):=rfl
def Bz (t:D) (r:List (D ⊕ Nat)) (o:Option D) (outs:En):wb (.inl t :: r) (o :: outs) en=wb r outs en:=rfl
def By (outs:En):wb [] outs en=en:=rfl
def Bx (g:List D->Option D):W (eN g fa en) Qe=W (fa en) (kN g Qe):=(ay _ _ _).trans (congrArg _ (funext fun z=>(ay _ _ _).trans (congrArg _ (funext fun y=>bD _ _ _))))
def Bw (g:List D->Option D) (as:List (D ⊕ Nat)):kN g Qe (as,en)=W (bH as) (kN2 g en Qe):=rfl
def Bv (g:List D->Option D):kN2 g en Qe ts=W (g ts) (eX en Qe):=rfl
def Bu:W (aT fa en) Qe=W (fa en) (DU Qe):=(ay _ _ _).trans (congrArg _ (funext fun z=>ay _ _ _))
def Bs (as:List (D ⊕ Nat)):DU Qe (as,en)=W (bH as) (pC en Qe):=rfl
def Br:pC en Qe ts=(ts.length<=sizeLine/\Qe (.list ts,en)):=fH _ _ _
def Bq:W (av fa en) Qe=W (fa en) (DP Qe):=(ay _ _ _).trans (congrArg _ (funext fun z=>ay _ _ _))
def Bp (as:List (D ⊕ Nat)):DP Qe (as,en)=W (bH as) (pr en Qe):=rfl
def Bo:pr en Qe ts=(ts.length<=sizeLine/\Qe (.tuple ts,en)):=fH _ _ _
def Bn:(([]:List D).length<=sizeLine)=True:=eq_true (zau (by show 0<=100; decide) aU)
def Bm (x0:D):(([x0]:List D).length<=sizeLine)=True:=eq_true (zau (by show 1<=100; decide) aU)
def Bk (x0 x1:D):(([x0,x1]:List D).length<=sizeLine)=True:=eq_true (zau (by show 2<=100; decide) aU)
def Bj (x0 x1 x2:D):(([x0,x1,x2]:List D).length<=sizeLine)=True:=eq_true (zau (by show 3<=100; decide) aU)
def Bi (x0 x1 x2 x3:D):(([x0,x1,x2,x3]:List D).length<=sizeLine)=True:=eq_true (zau (by show 4<=100; decide) aU)
def yZ (x0 x1 x2 x3 x4:D):(([x0,x1,x2,x3,x4]:List D).length<=sizeLine)=True:=eq_true (zau (by show 5<=100; decide) aU)
def yY (x0 x1 x2 x3 x4 x5:D):(([x0,x1,x2,x3,x4,x5]:List D).length<=sizeLine)=True:=eq_true (zau (by show 6<=100; decide) aU)
def yX (x0 x1 x2 x3 x4 x5 x6:D):(([x0,x1,x2,x3,x4,x5,x6]:List D).length<=sizeLine)=True:=eq_true (zau (by show 7<=100; decide) aU)
def yW (x0 x1 x2 x3 x4 x5 x6 x7:D):(([x0,x1,x2,x3,x4,x5,x6,x7]:List D).length<=sizeLine)=True:=eq_true (zau (by show 8<=100; decide) aU)
def yV (x0 x1 x2 x3 x4 x5 x6 x7 x8:D):(([x0,x1,x2,x3,x4,x5,x6,x7,x8]:List D).length<=sizeLine)=True:=eq_true (zau (by show 9<=100; decide) aU)
def yU (x0 x1 x2 x3 x4 x5 x6 x7 x8 x9:D):(([x0,x1,x2,x3,x4,x5,x6,x7,x8,x9]:List D).length<=sizeLine)=True:=eq_true (zau (by show 10<=100; decide) aU)
def yT (x0 x1 x2 x3 x4 x5 x6 x7 x8 x9 x10:D):(([x0,x1,x2,x3,x4,x5,x6,x7,x8,x9,x10]:List D).length<=sizeLine)=True:=eq_true (zau (by show 11<=100; decide) aU)
def yS (x0 x1 x2 x3 x4 x5 x6 x7 x8 x9 x10 x11:D):(([x0,x1,x2,x3,x4,x5,x6,x7,x8,x9,x10,x11]:List D).length<=sizeLine)=True:=eq_true (zau (by show 12<=100; decide) aU)
def yR (x0 x1 x2 x3 x4 x5 x6 x7 x8 x9 x10 x11 x12:D):(([x0,x1,x2,x3,x4,x5,x6,x7,x8,x9,x10,x11,x12]:List D).length<=sizeLine)=True:=eq_true (zau (by show 13<=100; decide) aU)
def yQ (x0 x1 x2 x3 x4 x5 x6 x7 x8 x9 x10 x11 x12 x13:D):(([x0,x1,x2,x3,x4,x5,x6,x7,x8,x9,x10,x11,x12,x13]:List D).length<=sizeLine)=True:=eq_true (zau (by show 14<=100; decide) aU)
def yP (x0 x1 x2 x3 x4 x5 x6 x7 x8 x9 x10 x11 x12 x13 x14:D):(([x0,x1,x2,x3,x4,x5,x6,x7,x8,x9,x10,x11,x12,x13,x14]:List D).length<=sizeLine)=True:=eq_true (zau (by show 15<=100; decide) aU)
def yO (x0 x1 x2 x3 x4 x5 x6 x7 x8 x9 x10 x11 x12 x13 x14 x15:D):(([x0,x1,x2,x3,x4,x5,x6,x7,x8,x9,x10,x11,x12,x13,x14,x15]:List D).length<=sizeLine)=True:=eq_true (zau (by show 16<=100; decide) aU)
def yN (x0 x1 x2 x3 x4 x5 x6 x7 x8 x9 x10 x11 x12 x13 x14 x15 x16:D):(([x0,x1,x2,x3,x4,x5,x6,x7,x8,x9,x10,x11,x12,x13,x14,x15,x16]:List D).length<=sizeLine)=True:=eq_true (zau (by show 17<=100; decide) aU)
def yM (x0 x1 x2 x3 x4 x5 x6 x7 x8 x9 x10 x11 x12 x13 x14 x15 x16 x17:D):(([x0,x1,x2,x3,x4,x5,x6,x7,x8,x9,x10,x11,x12,x13,x14,x15,x16,x17]:List D).length<=sizeLine)=True:=eq_true (zau (by show 18<=100; decide) aU)
def yL (x0 x1 x2 x3 x4 x5 x6 x7 x8 x9 x10 x11 x12 x13 x14 x15 x16 x17 x18:D):(([x0,x1,x2,x3,x4,x5,x6,x7,x8,x9,x10,x11,x12,x13,x14,x15,x16,x17,x18]:List D).length<=sizeLine)=True:=eq_true (zau (by show 19<=100; decide) aU)
def yK (F:List D->Option (D × En)):W (ar F fa en) Qe=W (fa en) (zC F Qe):=(ay _ _ _).trans (congrArg _ (funext fun z=>(ay _ _ _).trans (congrArg _ (funext fun y=>bD _ _ _))))
def yJ (F:List D->Option (D × En)) (as:List (D ⊕ Nat)):zC F Qe (as,en)=W (eI as en) (ny F as en Qe):=rfl
def yI (F:List D->Option (D × En)) (as:List (D ⊕ Nat)):ny F as en Qe ts=W (F ts) (nw as en Qe):=rfl
def yH (as:List (D ⊕ Nat)) (t:D) (outs:En):nw as en Qe (t,outs)=Qe (t,wb as outs en):=rfl
def yG (q:Bool) (fi:MI) (js:List (Option Nat)):W (eLC q fi g c f js en) Qe=W (fi en) (kLC q g c f js Qe):=(ay _ _ _).trans (congrArg _ (funext fun z=>bD _ _ _))
def yF (q:Bool) (js:List (Option Nat)):kLC q g c f js Qe (ts,en)=W (lcF g c f ts [] (de js en)) (pE q js en Qe):=rfl
def yE (js:List (Option Nat)) (us:List D) (ex:En):pE true js en Qe (us,ex)=Qe (.list us,en):=rfl
def yD (js:List (Option Nat)) (us:List D) (ex:En):pE false js en Qe (us,ex)=Qe (.list us,wbB js ex en):=rfl
def yC:de [] en=[]:=rfl
def yB (j:Nat) (js:List (Option Nat)):de (some j :: js) en=gv en j :: de js en:=rfl
def yA (js:List (Option Nat)):de (none :: js) en=none :: de js en:=rfl
def yz (j:Nat) (js:List (Option Nat)) (o:Option D) (ex:En):wbB (some j :: js) (o :: ex) en=wbB js ex (en.set j o):=rfl
def yy (js:List (Option Nat)) (o:Option D) (ex:En):wbB (none :: js) (o :: ex) en=wbB js ex en:=rfl
def yx (ex:En):wbB [] ex en=en:=rfl
def yw:W (lcF g c f [] acc en) Ql=Ql (acc,en):=aB _ _
def yv:W (c9 f en) Ql=W (f en) (pI Ql):=ay _ _ _
def yu:pI Ql (.list ts,en)=Ql (ts,en):=aB _ _
def yt:pI Ql (.tuple ts,en)=Ql (ts,en):=aB _ _
def yr (z:Str):pI Ql (.str z,en)=Ql (ff z,en):=aB _ _
def yq:W (cx fa en) Ql=W (fa en) (kR1 Ql):=ay _ _ _
def yp (j:Int):kR1 Ql ([.inl (.int j)],en)=((-(2 ^ 62)<=j/\j < 2 ^ 62)/\Ql (gY 0 j.toNat,en)):=fH _ _ _
def yo:W (jk fa en) Ql=W (fa en) (kR2 Ql):=ay _ _ _
def yn (i j:Int):kR2 Ql ([.inl (.int i),.inl (.int j)],en)=((-(2 ^ 62)<=i/\i < 2 ^ 62/\-(2 ^ 62)<=j/\j < 2 ^ 62)/\Ql (gY i (j - i).toNat,en)):=fH _ _ _
def ym:W (bY i f en) Qe=W (gv en i) (zz i f en Qe):=(ay _ _ _).trans (congrArg _ (funext fun z=>ay _ _ _))
def yk (x:D):zz i f en Qe x=W (f en) (kU i Qe):=rfl
def yj (n:Int):kU i Qe (.int n,en)=W (gv en i) (qA n en Qe):=by unfold kU gv; cases h:(en[i]?).join with | none=>simp only [h,bm] | some x=>simp only [h,aB]; cases x <;> first | rfl | exact (aB _ _).symm | (rw [aB]; rfl) | (rw [aB]; exact bm _)
def yi (n:Int):qA n en Qe (.list ts)=W (atI ts n) (eX en Qe):=bD _ _ _
def yh:W (ku i f en) Qe=W (gv en i) (D0 i f en Qe):=by unfold gv ku; cases (en[i]?).join with | none=>rw [bm,bm] | some x=>cases x <;> first | rfl | exact (aB _ _).symm | (rw [aB]; rfl) | (rw [aB]; exact bm _)
def yg:D0 i f en Qe (.list ts)=W (f en) (pH i Qe):=ay _ _ _
def yf (t:D):pH i Qe (t,en)=W (gv en i) (zG i t en Qe):=by unfold pH gv; cases h:(en[i]?).join with | none=>simp only [h,bm] | some x=>simp only [h,aB]; cases x <;> first | rfl | exact (aB _ _).symm | (rw [aB]; rfl) | (rw [aB]; exact bm _)
def ye (t:D):zG i t en Qe (.list ts)=(ts.length < sizeLine/\Qe (.none,en.set i (some (.list (ts++[t]))))):=fH _ _ _
def yd (g g2:D->D->Option D) (f1 f2 f3:ME):W (eH g g2 f1 f2 f3 en) Qe=W (f1 en) (kCh g g2 f2 f3 Qe):=(ay _ _ _).trans (congrArg _ (funext fun z=>(ay _ _ _).trans (congrArg _ (funext fun y=>ay _ _ _))))
def yc (g g2:D->D->Option D) (f2 f3:ME) (t:D):kCh g g2 f2 f3 Qe (t,en)=W (f2 en) (sj g g2 f3 t Qe):=rfl
def yb (g g2:D->D->Option D) (f3:ME) (t u:D):sj g g2 f3 t Qe (u,en)=W (g t u) (pF g2 u f3 en Qe):=rfl
def ya (g:D->D->Option D) (u:D) (f3:ME):pF g u f3 en Qe (.bool true)=W (f3 en) (k2b g u Qe):=(ay _ _ _).trans (congrArg _ (funext fun z=>bD _ _ _))
def xZ (g:D->D->Option D) (u:D) (f3:ME):pF g u f3 en Qe (.bool false)=Qe (.bool false,en):=aB _ _
def xY (Q:Option Int × En->Prop):W (cE en) Q=Q (none,en):=aB _ _
def xX (Q:Option Int × En->Prop):W (cw f en) Q=W (f en) (kOS Q):=ay _ _ _
def xW (n:Int) (Q:Option Int × En->Prop):kOS Q (.int n,en)=Q (some n,en):=aB _ _
def xV (g:D->Option Int->Option Int->Option D) (lo hi:MO):W (eSl g f lo hi en) Qe=W (f en) (kSl g lo hi Qe):=(ay _ _ _).trans (congrArg _ (funext fun z=>(ay _ _ _).trans (congrArg _ (funext fun y=>(ay _ _ _).trans (congrArg _ (funext fun y=>bD _ _ _))))))
def xU (g:D->Option Int->Option Int->Option D) (lo hi:MO) (t:D):kSl g lo hi Qe (t,en)=W (lo en) (se g t hi Qe):=rfl
def xT (g:D->Option Int->Option Int->Option D) (hi:MO) (t:D) (a:Option Int):se g t hi Qe (a,en)=W (hi en) (sd g t a Qe):=rfl
def xS (g:D->Option Int->Option Int->Option D) (t:D) (a b:Option Int):sd g t a Qe (b,en)=W (g t a b) (eX en Qe):=rfl
def xR (g:Str->List D->Option D):W (eM g f fa en) Qe=W (f en) (kM g fa Qe):=ay _ _ _
def xQ (g:Str->List D->Option D) (z:Str):kM g fa Qe (.str z,en)=W (fa en) (kM1 g z Qe):=(ay _ _ _).trans (congrArg _ (funext fun z=>(ay _ _ _).trans (congrArg _ (funext fun y=>bD _ _ _))))
def xP (g:Str->List D->Option D) (z:Str) (as:List (D ⊕ Nat)):kM1 g z Qe (as,en)=W (bH as) (kM2 g z en Qe):=rfl
def xO (g:Str->List D->Option D) (z:Str):kM2 g z en Qe ts=W (g z ts) (eX en Qe):=rfl
def xN (J:En->Prop):kIt J Qs (.nx en)=J en:=rfl
def xM (J:En->Prop):kIt J Qs (.ct en)=J en:=rfl
def xL (J:En->Prop) (t:D):kIt J Qs (.rt t en)=Qs (.rt t en):=rfl
def xK (b:MS) (J:En->Prop):kFg b J Qs en=W (b en) (kIt J Qs):=rfl
def xJ (b:MS) (J:En->Prop):kWh b J Qs (true,en)=W (b en) (kIt J Qs):=rfl
def xI (b:MS) (J:En->Prop):kWh b J Qs (false,en)=Qs (.nx en):=rfl
def xH (us:List D) (J:List D->En->Prop):DW c f us J en=W (c en) (pD f us J):=rfl
def xG (us:List D) (J:List D->En->Prop):pD f us J (true,en)=W (f en) (si us J):=rfl
def xF (us:List D) (J:List D->En->Prop):pD f us J (false,en)=J us en:=rfl
def xE (us:List D) (J:List D->En->Prop) (t:D):si us J (t,en)=J (us++[t]) en:=rfl
def xD (n:Nat) (dps:List Nat) (b:MS):W (fnF n dps b ts) Qe=W (b (ts.map some++List.replicate n none)) (kFn dps Qe):=ay _ _ _
def xC (dps:List Nat) (t:D):kFn dps Qe (.rt t en)=Qe (t,msk dps en):=aB _ _
def xB (dps:List Nat):kFn dps Qe (.nx en)=Qe (.none,msk dps en):=aB _ _
def xA (d:Nat) (ds:List Nat) (o:Option D):msk ((d+1) :: ds) (o :: en)=o :: msk ds en:=rfl
def xz (ds:List Nat) (o:Option D):msk (0 :: ds) (o :: en)=none :: msk ds en:=rfl
def xy:msk [] en=[]:=rfl
def xx (t:D):List.map some (t :: ts)=some t :: List.map some ts:=rfl
def xw:List.map (some:D->Option D) []=[]:=rfl
def xv (a:Option D) (l m:En):(a :: l)++m=a :: (l++m):=rfl
def xu (m:En):([]:En)++m=m:=rfl
def xr (a:Option D):List.replicate 0 a=[]:=rfl
def xq (a:Option D) (n:Nat):List.replicate (n+1) a=a :: List.replicate n a:=rfl
def xp (a b:Int):bp (.int a) (.int b)=some (.int (a+b)):=rfl
def xo (a b:Str):W (bp (.str a) (.str b)) Qd=(a.length+b.length<=sizeLine/\Qd (.str (a++b))):=fH _ _ _
def xn (a b:Int):ce (.int a) (.int b)=some (.int (a - b)):=rfl
def xm (a b:Int):W (df (.int a) (.int b)) Qd=(CMul a b/\Qd (.int (a * b))):=fH _ _ _
def xl (a b:Int):W (fR (.int a) (.int b)) Qd=(iX a b/\Qd (.int (a / b))):=fH _ _ _
def xk (a b:Int):W (cF (.int a) (.int b)) Qd=(0 < b/\Qd (.int (a % b))):=fH _ _ _
def xj (a b:Int):W (lG (.int a) (.int b)) Qd=(ik a b/\Qd (.int (a ^ b.toNat))):=fH _ _ _
def xi (a b:Int):ltI (.int a) (.int b)=some (.bool (decide (a < b))):=rfl
def xh (a b:Int):leI (.int a) (.int b)=some (.bool (decide (a<=b))):=rfl
def xg (a b:Int):gtI (.int a) (.int b)=some (.bool (decide (b < a))):=rfl
def xf (a b:Int):geI (.int a) (.int b)=some (.bool (decide (b<=a))):=rfl
def xc (a b:Int):eqD (.int a) (.int b)=some (.bool (decide (a=b))):=(EO a b).trans (congrArg (fun q=>some (PyData.bool q)) (oE a b))
def xb (a b:Int):neD (.int a) (.int b)=some (.bool (!decide (a=b))):=(DB a b).trans (congrArg (fun q=>some (PyData.bool (!q))) (oE a b))
def xa:isN .none .none=some (.bool true):=rfl
def w8 (x:Int):isN (.int x) .none=some (.bool false):=rfl
def w6 (x:Bool):isN (.bool x) .none=some (.bool false):=rfl
def w4 (x:Str):isN (.str x) .none=some (.bool false):=rfl
def wZ (x:List D):isN (.list x) .none=some (.bool false):=rfl
def wY (x:List D):isN (.tuple x) .none=some (.bool false):=rfl
def wX (x:List (D × D)):isN (.dict x) .none=some (.bool false):=rfl
def wW:aC "int" (.none)=some (.bool false):=(if_neg (fun z=>nomatch z)).trans (congrArg (fun b=>some (PyData.bool b)) (show aG "NoneType" "int"=false by decide))
def wV:aC "bool" (.none)=some (.bool false):=(if_neg (fun z=>nomatch z)).trans (congrArg (fun b=>some (PyData.bool b)) (show aG "NoneType" "bool"=false by decide))
def wU:aC "str" (.none)=some (.bool false):=(if_neg (fun z=>nomatch z)).trans (congrArg (fun b=>some (PyData.bool b)) (show aG "NoneType" "str"=false by decide))
def wT:aC "list" (.none)=some (.bool false):=(if_neg (fun z=>nomatch z)).trans (congrArg (fun b=>some (PyData.bool b)) (show aG "NoneType" "list"=false by decide))
def wS:aC "tuple" (.none)=some (.bool false):=(if_neg (fun z=>nomatch z)).trans (congrArg (fun b=>some (PyData.bool b)) (show aG "NoneType" "tuple"=false by decide))
def wR:aC "dict" (.none)=some (.bool false):=(if_neg (fun z=>nomatch z)).trans (congrArg (fun b=>some (PyData.bool b)) (show aG "NoneType" "dict"=false by decide))
def wQ (x:Int):aC "int" (.int x)=some (.bool true):=(if_neg (fun z=>nomatch z)).trans (congrArg (fun b=>some (PyData.bool b)) (show aG "int" "int"=true by decide))
def wP (x:Int):aC "bool" (.int x)=some (.bool false):=(if_neg (fun z=>nomatch z)).trans (congrArg (fun b=>some (PyData.bool b)) (show aG "int" "bool"=false by decide))
def wO (x:Int):aC "str" (.int x)=some (.bool false):=(if_neg (fun z=>nomatch z)).trans (congrArg (fun b=>some (PyData.bool b)) (show aG "int" "str"=false by decide))
def wN (x:Int):aC "list" (.int x)=some (.bool false):=(if_neg (fun z=>nomatch z)).trans (congrArg (fun b=>some (PyData.bool b)) (show aG "int" "list"=false by decide))
def wM (x:Int):aC "tuple" (.int x)=some (.bool false):=(if_neg (fun z=>nomatch z)).trans (congrArg (fun b=>some (PyData.bool b)) (show aG "int" "tuple"=false by decide))
def wL (x:Int):aC "dict" (.int x)=some (.bool false):=(if_neg (fun z=>nomatch z)).trans (congrArg (fun b=>some (PyData.bool b)) (show aG "int" "dict"=false by decide))
def wK (x:Bool):aC "int" (.bool x)=some (.bool true):=(if_neg (fun z=>nomatch z)).trans (congrArg (fun b=>some (PyData.bool b)) (show aG "bool" "int"=true by decide))
def wJ (x:Bool):aC "bool" (.bool x)=some (.bool true):=(if_neg (fun z=>nomatch z)).trans (congrArg (fun b=>some (PyData.bool b)) (show aG "bool" "bool"=true by decide))
def wI (x:Bool):aC "str" (.bool x)=some (.bool false):=(if_neg (fun z=>nomatch z)).trans (congrArg (fun b=>some (PyData.bool b)) (show aG "bool" "str"=false by decide))
def wH (x:Bool):aC "list" (.bool x)=some (.bool false):=(if_neg (fun z=>nomatch z)).trans (congrArg (fun b=>some (PyData.bool b)) (show aG "bool" "list"=false by decide))
def wG (x:Bool):aC "tuple" (.bool x)=some (.bool false):=(if_neg (fun z=>nomatch z)).trans (congrArg (fun b=>some (PyData.bool b)) (show aG "bool" "tuple"=false by decide))
def wF (x:Bool):aC "dict" (.bool x)=some (.bool false):=(if_neg (fun z=>nomatch z)).trans (congrArg (fun b=>some (PyData.bool b)) (show aG "bool" "dict"=false by decide))
def wE (x:Str):aC "int" (.str x)=some (.bool false):=(if_neg (fun z=>nomatch z)).trans (congrArg (fun b=>some (PyData.bool b)) (show aG "str" "int"=false by decide))
def wD (x:Str):aC "bool" (.str x)=some (.bool false):=(if_neg (fun z=>nomatch z)).trans (congrArg (fun b=>some (PyData.bool b)) (show aG "str" "bool"=false by decide))
def wC (x:Str):aC "str" (.str x)=some (.bool true):=(if_neg (fun z=>nomatch z)).trans (congrArg (fun b=>some (PyData.bool b)) (show aG "str" "str"=true by decide))
def wB (x:Str):aC "list" (.str x)=some (.bool false):=(if_neg (fun z=>nomatch z)).trans (congrArg (fun b=>some (PyData.bool b)) (show aG "str" "list"=false by decide))
def wA (x:Str):aC "tuple" (.str x)=some (.bool false):=(if_neg (fun z=>nomatch z)).trans (congrArg (fun b=>some (PyData.bool b)) (show aG "str" "tuple"=false by decide))
def wz (x:Str):aC "dict" (.str x)=some (.bool false):=(if_neg (fun z=>nomatch z)).trans (congrArg (fun b=>some (PyData.bool b)) (show aG "str" "dict"=false by decide))
def wy (x:List D):aC "int" (.list x)=some (.bool false):=(if_neg (fun z=>nomatch z)).trans (congrArg (fun b=>some (PyData.bool b)) (show aG "list" "int"=false by decide))
def wx (x:List D):aC "bool" (.list x)=some (.bool false):=(if_neg (fun z=>nomatch z)).trans (congrArg (fun b=>some (PyData.bool b)) (show aG "list" "bool"=false by decide))
def wv (x:List D):aC "str" (.list x)=some (.bool false):=(if_neg (fun z=>nomatch z)).trans (congrArg (fun b=>some (PyData.bool b)) (show aG "list" "str"=false by decide))
def wu (x:List D):aC "list" (.list x)=some (.bool true):=(if_neg (fun z=>nomatch z)).trans (congrArg (fun b=>some (PyData.bool b)) (show aG "list" "list"=true by decide))
def wt (x:List D):aC "tuple" (.list x)=some (.bool false):=(if_neg (fun z=>nomatch z)).trans (congrArg (fun b=>some (PyData.bool b)) (show aG "list" "tuple"=false by decide))
def wq (x:List D):aC "dict" (.list x)=some (.bool false):=(if_neg (fun z=>nomatch z)).trans (congrArg (fun b=>some (PyData.bool b)) (show aG "list" "dict"=false by decide))
def wp (x:List D):aC "int" (.tuple x)=some (.bool false):=(if_neg (fun z=>nomatch z)).trans (congrArg (fun b=>some (PyData.bool b)) (show aG "tuple" "int"=false by decide))
def wo (x:List D):aC "bool" (.tuple x)=some (.bool false):=(if_neg (fun z=>nomatch z)).trans (congrArg (fun b=>some (PyData.bool b)) (show aG "tuple" "bool"=false by decide))
def wn (x:List D):aC "str" (.tuple x)=some (.bool false):=(if_neg (fun z=>nomatch z)).trans (congrArg (fun b=>some (PyData.bool b)) (show aG "tuple" "str"=false by decide))
def wm (x:List D):aC "list" (.tuple x)=some (.bool false):=(if_neg (fun z=>nomatch z)).trans (congrArg (fun b=>some (PyData.bool b)) (show aG "tuple" "list"=false by decide))
def wl (x:List D):aC "tuple" (.tuple x)=some (.bool true):=(if_neg (fun z=>nomatch z)).trans (congrArg (fun b=>some (PyData.bool b)) (show aG "tuple" "tuple"=true by decide))
def wj (x:List D):aC "dict" (.tuple x)=some (.bool false):=(if_neg (fun z=>nomatch z)).trans (congrArg (fun b=>some (PyData.bool b)) (show aG "tuple" "dict"=false by decide))
def wg:aC "int" (.dict [])=some (.bool false):=(if_neg (fun z=>nomatch z)).trans (congrArg (fun b=>some (PyData.bool b)) (show aG "dict" "int"=false by decide))
def wf (k:Str) (x:D) (r:List (D × D)):aC "int" (.dict ((.str k,x) :: r))=some (.bool false):=(if_neg (fun z=>nomatch z)).trans (congrArg (fun b=>some (PyData.bool b)) (show aG "dict" "int"=false by decide))
def we (k:Int) (x:D) (r:List (D × D)):aC "int" (.dict ((.int k,x) :: r))=some (.bool false):=(if_neg (fun z=>nomatch z)).trans (congrArg (fun b=>some (PyData.bool b)) (show aG "dict" "int"=false by decide))
def wd (k:List D) (x:D) (r:List (D × D)):aC "int" (.dict ((.tuple k,x) :: r))=some (.bool false):=(if_neg (fun z=>nomatch z)).trans (congrArg (fun b=>some (PyData.bool b)) (show aG "dict" "int"=false by decide))
def wc:aC "bool" (.dict [])=some (.bool false):=(if_neg (fun z=>nomatch z)).trans (congrArg (fun b=>some (PyData.bool b)) (show aG "dict" "bool"=false by decide))
def wa (k:Str) (x:D) (r:List (D × D)):aC "bool" (.dict ((.str k,x) :: r))=some (.bool false):=(if_neg (fun z=>nomatch z)).trans (congrArg (fun b=>some (PyData.bool b)) (show aG "dict" "bool"=false by decide))
def v9 (k:Int) (x:D) (r:List (D × D)):aC "bool" (.dict ((.int k,x) :: r))=some (.bool false):=(if_neg (fun z=>nomatch z)).trans (congrArg (fun b=>some (PyData.bool b)) (show aG "dict" "bool"=false by decide))
def v8 (k:List D) (x:D) (r:List (D × D)):aC "bool" (.dict ((.tuple k,x) :: r))=some (.bool false):=(if_neg (fun z=>nomatch z)).trans (congrArg (fun b=>some (PyData.bool b)) (show aG "dict" "bool"=false by decide))
def vZ:aC "str" (.dict [])=some (.bool false):=(if_neg (fun z=>nomatch z)).trans (congrArg (fun b=>some (PyData.bool b)) (show aG "dict" "str"=false by decide))
def vY (k:Str) (x:D) (r:List (D × D)):aC "str" (.dict ((.str k,x) :: r))=some (.bool false):=(if_neg (fun z=>nomatch z)).trans (congrArg (fun b=>some (PyData.bool b)) (show aG "dict" "str"=false by decide))
def vX (k:Int) (x:D) (r:List (D × D)):aC "str" (.dict ((.int k,x) :: r))=some (.bool false):=(if_neg (fun z=>nomatch z)).trans (congrArg (fun b=>some (PyData.bool b)) (show aG "dict" "str"=false by decide))
def vW (k:List D) (x:D) (r:List (D × D)):aC "str" (.dict ((.tuple k,x) :: r))=some (.bool false):=(if_neg (fun z=>nomatch z)).trans (congrArg (fun b=>some (PyData.bool b)) (show aG "dict" "str"=false by decide))
def vV:aC "list" (.dict [])=some (.bool false):=(if_neg (fun z=>nomatch z)).trans (congrArg (fun b=>some (PyData.bool b)) (show aG "dict" "list"=false by decide))
def vU (k:Str) (x:D) (r:List (D × D)):aC "list" (.dict ((.str k,x) :: r))=some (.bool false):=(if_neg (fun z=>nomatch z)).trans (congrArg (fun b=>some (PyData.bool b)) (show aG "dict" "list"=false by decide))
def vS (k:Int) (x:D) (r:List (D × D)):aC "list" (.dict ((.int k,x) :: r))=some (.bool false):=(if_neg (fun z=>nomatch z)).trans (congrArg (fun b=>some (PyData.bool b)) (show aG "dict" "list"=false by decide))
def vR (k:List D) (x:D) (r:List (D × D)):aC "list" (.dict ((.tuple k,x) :: r))=some (.bool false):=(if_neg (fun z=>nomatch z)).trans (congrArg (fun b=>some (PyData.bool b)) (show aG "dict" "list"=false by decide))
def vQ:aC "tuple" (.dict [])=some (.bool false):=(if_neg (fun z=>nomatch z)).trans (congrArg (fun b=>some (PyData.bool b)) (show aG "dict" "tuple"=false by decide))
def vP (k:Str) (x:D) (r:List (D × D)):aC "tuple" (.dict ((.str k,x) :: r))=some (.bool false):=(if_neg (fun z=>nomatch z)).trans (congrArg (fun b=>some (PyData.bool b)) (show aG "dict" "tuple"=false by decide))
def vO (k:Int) (x:D) (r:List (D × D)):aC "tuple" (.dict ((.int k,x) :: r))=some (.bool false):=(if_neg (fun z=>nomatch z)).trans (congrArg (fun b=>some (PyData.bool b)) (show aG "dict" "tuple"=false by decide))
def vN (k:List D) (x:D) (r:List (D × D)):aC "tuple" (.dict ((.tuple k,x) :: r))=some (.bool false):=(if_neg (fun z=>nomatch z)).trans (congrArg (fun b=>some (PyData.bool b)) (show aG "dict" "tuple"=false by decide))
def vM:aC "dict" (.dict [])=some (.bool true):=(if_neg (fun z=>nomatch z)).trans (congrArg (fun b=>some (PyData.bool b)) (show aG "dict" "dict"=true by decide))
def vK (k:Str) (x:D) (r:List (D × D)):aC "dict" (.dict ((.str k,x) :: r))=some (.bool true):=(if_neg (fun z=>nomatch z)).trans (congrArg (fun b=>some (PyData.bool b)) (show aG "dict" "dict"=true by decide))
def vJ (k:Int) (x:D) (r:List (D × D)):aC "dict" (.dict ((.int k,x) :: r))=some (.bool true):=(if_neg (fun z=>nomatch z)).trans (congrArg (fun b=>some (PyData.bool b)) (show aG "dict" "dict"=true by decide))
def vI (k:List D) (x:D) (r:List (D × D)):aC "dict" (.dict ((.tuple k,x) :: r))=some (.bool true):=(if_neg (fun z=>nomatch z)).trans (congrArg (fun b=>some (PyData.bool b)) (show aG "dict" "dict"=true by decide))
def vH:((([]:List D).length:Nat):Int)=0:=rfl
def vG (x0:D):((([x0]:List D).length:Nat):Int)=1:=rfl
def vF (x0 x1:D):((([x0,x1]:List D).length:Nat):Int)=2:=rfl
def vE (x0 x1 x2:D):((([x0,x1,x2]:List D).length:Nat):Int)=3:=rfl
def vD (x0 x1 x2 x3:D):((([x0,x1,x2,x3]:List D).length:Nat):Int)=4:=rfl
def vC (x0 x1 x2 x3 x4:D):((([x0,x1,x2,x3,x4]:List D).length:Nat):Int)=5:=rfl
def vB (x0 x1 x2 x3 x4 x5:D):((([x0,x1,x2,x3,x4,x5]:List D).length:Nat):Int)=6:=rfl
def vA (x0 x1 x2 x3 x4 x5 x6:D):((([x0,x1,x2,x3,x4,x5,x6]:List D).length:Nat):Int)=7:=rfl
def vz (x0 x1 x2 x3 x4 x5 x6 x7:D):((([x0,x1,x2,x3,x4,x5,x6,x7]:List D).length:Nat):Int)=8:=rfl
def vy (x0 x1 x2 x3 x4 x5 x6 x7 x8:D):((([x0,x1,x2,x3,x4,x5,x6,x7,x8]:List D).length:Nat):Int)=9:=rfl
def vx (x0 x1 x2 x3 x4 x5 x6 x7 x8 x9:D):((([x0,x1,x2,x3,x4,x5,x6,x7,x8,x9]:List D).length:Nat):Int)=10:=rfl
def vw (x0 x1 x2 x3 x4 x5 x6 x7 x8 x9 x10:D):((([x0,x1,x2,x3,x4,x5,x6,x7,x8,x9,x10]:List D).length:Nat):Int)=11:=rfl
def vv (x0 x1 x2 x3 x4 x5 x6 x7 x8 x9 x10 x11:D):((([x0,x1,x2,x3,x4,x5,x6,x7,x8,x9,x10,x11]:List D).length:Nat):Int)=12:=rfl
def vt (x0 x1 x2 x3 x4 x5 x6 x7 x8 x9 x10 x11 x12:D):((([x0,x1,x2,x3,x4,x5,x6,x7,x8,x9,x10,x11,x12]:List D).length:Nat):Int)=13:=rfl
def vr (x0 x1 x2 x3 x4 x5 x6 x7 x8 x9 x10 x11 x12 x13:D):((([x0,x1,x2,x3,x4,x5,x6,x7,x8,x9,x10,x11,x12,x13]:List D).length:Nat):Int)=14:=rfl
def vq (x0 x1 x2 x3 x4 x5 x6 x7 x8 x9 x10 x11 x12 x13 x14:D):((([x0,x1,x2,x3,x4,x5,x6,x7,x8,x9,x10,x11,x12,x13,x14]:List D).length:Nat):Int)=15:=rfl
def vp (x0 x1 x2 x3 x4 x5 x6 x7 x8 x9 x10 x11 x12 x13 x14 x15:D):((([x0,x1,x2,x3,x4,x5,x6,x7,x8,x9,x10,x11,x12,x13,x14,x15]:List D).length:Nat):Int)=16:=rfl
def vo (α β:Type) (f:α->β) (l:List α):(l.map f).length=l.length:=zad f
def vn:aS [.list ts]=some (.int ts.length):=rfl
def vm:aS [.tuple ts]=some (.int ts.length):=rfl
def vk (z:Str):W (aS [.str z]) Qd=(z.length<=sizeLine/\Qd (.int z.length)):=jQ _ _ _
def vj (a:Int):kA [.int a]=some (.int (if a < 0 then -a else a)):=rfl
def vi (a b:Int):kS [.int a,.int b]=some (.int (if b < a then b else a)):=rfl
def vh (a:Int):kj (.int a)=some (.int (-a)):=rfl
def vg:fO [.list ts]=some (.list ts):=rfl
def vf:oT [.list ts]=some (.tuple ts):=rfl
def ve (n:Int):ixA (.list ts) (.int n)=atI ts n:=rfl
def vd:fO [.tuple ts]=some (.list ts):=rfl
def vc:oT [.tuple ts]=some (.tuple ts):=rfl
def vb (n:Int):ixA (.tuple ts) (.int n)=atI ts n:=rfl
def va (ts us:List D):W (bF (.list ts) (.list us)) Qd=(ts.length+us.length<=sizeLine/\Qd (.list (ts++us))):=fH _ _ _
def u9 (ts us:List D):W (jp (.tuple ts) (.tuple us)) Qd=(ts.length+us.length<=sizeLine/\Qd (.tuple (ts++us))):=fH _ _ _
def u8 (lo hi:Option Int):mU (.list ts) lo hi=some (.list (bK ts lo hi)):=rfl
def u7:atI ts 0=ts[0]?:=bc ts _
def u6:atI ts 1=ts[1]?:=bc ts _
def u5:atI ts 2=ts[2]?:=bc ts _
def u4:atI ts 3=ts[3]?:=bc ts _
def u3:atI ts 4=ts[4]?:=bc ts _
def u0:atI ts 5=ts[5]?:=bc ts _
def uZ:atI ts 6=ts[6]?:=bc ts _
def uY:atI ts 7=ts[7]?:=bc ts _
def uX:atI ts 8=ts[8]?:=bc ts _
def uW:atI ts 9=ts[9]?:=bc ts _
def uV:atI ts 10=ts[10]?:=bc ts _
def uU:atI ts 11=ts[11]?:=bc ts _
def uS:atI ts 12=ts[12]?:=bc ts _
def uR:atI ts 13=ts[13]?:=bc ts _
def uQ:atI ts 14=ts[14]?:=bc ts _
def uP:atI ts 15=ts[15]?:=bc ts _
def uO:atI ts 16=ts[16]?:=bc ts _
def uN:atI ts 17=ts[17]?:=bc ts _
def uM:atI ts 18=ts[18]?:=bc ts _
def uK:atI ts 19=ts[19]?:=bc ts _
def uJ:atI ts 20=ts[20]?:=bc ts _
def uI (t:D):(t :: ts)[0]?=some t:=rfl
def uH (t:D):(t :: ts)[i+1]?=ts[i]?:=List.getElem?_cons_succ
def uG:W (eG i f en) Qe=W (gv en i) (DS i f en Qe):=by unfold gv eG; cases (en[i]?).join with | none=>rw [bm,bm] | some x=>cases x <;> first | rfl | exact (aB _ _).symm | (rw [aB]; rfl) | (rw [aB]; exact bm _)
def uF:DS i f en Qe (.list ts)=W (f en) (pB i Qe):=ay _ _ _
def uE (n:Int):pB i Qe (.int n,en)=W (gv en i) (pA i n en Qe):=by unfold pB gv; cases h:(en[i]?).join with | none=>simp only [h,bm] | some x=>simp only [h,aB]; cases x <;> first | rfl | exact (aB _ _).symm | (rw [aB]; rfl) | (rw [aB]; exact bm _)
def uD (n:Int):pA i n en Qe (.list ts)=((-(2 ^ 63)<=n/\n < 2 ^ 63)/\W (o8 ts n) (zA i en Qe)):=by unfold pA o8; dsimp only; rw [pV]; congr 1; rw [ay,ay]; congr 1; funext k; rw [bD,bD]; rfl
def uC (t:D) (us:List D):zA i en Qe (t,us)=Qe (t,en.set i (some (.list us))):=rfl
def uB (z:Str) (n:Int):W (ixT (.str z) (.int n)) Qd=(z.length<=sizeLine/\W (atI (li z) n) (kS1 Qd)):=by show W (if _ then _ else _) _=_; rw [pV,bD]; rfl
def uA (c:Nat):kS1 Qd c=Qd (.str (mk1 c)):=rfl
def uz (z:Str) (n:Int):W (je (.str z) (.int n)) Qd=((z.length<=4000/\-(2 ^ 63)<=n/\n<=4000)/\Qd (.str (Txt.mul z n))):=jQ _ _ _
def uy (z:Str) (lo hi:Option Int):W (lP (.str z) lo hi) Qd=(z.length<=sizeLine/\Qd (.str ⟨(dM z.cps.toList lo hi).toArray⟩)):=jQ _ _ _
def ux (lo hi:Option Int):fU (.tuple ts) lo hi=some (.tuple (bK ts lo hi)):=by first | rfl | exact aB _ _ | exact bm _
def uw (a b:Str):pK (.str a) (.str b)=some (.bool (cg b a)):=rfl
def uv (a b:Str):jL (.str a) (.str b)=some (.bool (!cg b a)):=rfl
def uu (z:Str):W (kT (.str z)) Qd=(z.length < 4000/\Qd (.int (bE (db z) z.length).length)):=jQ _ _ _
def ur (a b:Bool):eqD (.bool a) (.bool b)=some (.bool (a == b)):=A1 a b
def uq (a b:Bool):neD (.bool a) (.bool b)=some (.bool (!(a == b))):=Ah a b
def up (a b:Str):eqD (.str a) (.str b)=some (.bool (decide (a=b))):=EM a b
def uo (a b:Str):neD (.str a) (.str b)=some (.bool (!decide (a=b))):=Dz a b
def um:neD (.list []) (.list [])=some (.bool false):=DA
def uk:eqD (.list []) (.list [])=some (.bool true):=EN
def uj (a:Bool):(a == a)=true:=beq_self_eq_true a
def ui:(true == false)=false:=rfl
def uh:(false == true)=false:=rfl
def ug (t:D) (ts acc:List D):W (lcF g c f (t :: ts) acc en) Ql=W (g t en) (kL1 g c f ts acc Ql):=by unfold lcF; rw [ay]; congr 1; funext z; rw [ay]; rfl
def uf (ts acc:List D):kL1 g c f ts acc Ql en=W (c en) (kL2 g c f ts acc Ql):=rfl
def ue (ts acc:List D):kL2 g c f ts acc Ql (true,en)=W (f en) (kL3 g c f ts acc Ql):=ay _ _ _
def ud (ts acc:List D):kL2 g c f ts acc Ql (false,en)=W (lcF g c f ts acc en) Ql:=rfl
def uc (ts acc:List D) (t:D):kL3 g c f ts acc Ql (t,en)=(acc.length < sizeLine/\W (lcF g c f ts (acc++[t]) en) Ql):=pV _ _ _
def ub (m:List D):([]++m:List D)=m:=rfl
def ua (x:D) (l m:List D):((x :: l)++m:List D)=x :: (l++m):=rfl
def t9:(([]:List D).length < sizeLine)=True:=eq_true (zag (by show 0 < 100; decide) aU)
def t8 (x0:D):(([x0]:List D).length < sizeLine)=True:=eq_true (zag (by show 1 < 100; decide) aU)
def t7 (x0 x1:D):(([x0,x1]:List D).length < sizeLine)=True:=eq_true (zag (by show 2 < 100; decide) aU)
def tZ (x0 x1 x2:D):(([x0,x1,x2]:List D).length < sizeLine)=True:=eq_true (zag (by show 3 < 100; decide) aU)
def tY (x0 x1 x2 x3:D):(([x0,x1,x2,x3]:List D).length < sizeLine)=True:=eq_true (zag (by show 4 < 100; decide) aU)
def tX (x0 x1 x2 x3 x4:D):(([x0,x1,x2,x3,x4]:List D).length < sizeLine)=True:=eq_true (zag (by show 5 < 100; decide) aU)
def tW (x0 x1 x2 x3 x4 x5:D):(([x0,x1,x2,x3,x4,x5]:List D).length < sizeLine)=True:=eq_true (zag (by show 6 < 100; decide) aU)
def tU (x0 x1 x2 x3 x4 x5 x6:D):(([x0,x1,x2,x3,x4,x5,x6]:List D).length < sizeLine)=True:=eq_true (zag (by show 7 < 100; decide) aU)
def tT (x0 x1 x2 x3 x4 x5 x6 x7:D):(([x0,x1,x2,x3,x4,x5,x6,x7]:List D).length < sizeLine)=True:=eq_true (zag (by show 8 < 100; decide) aU)
def tS (x0 x1 x2 x3 x4 x5 x6 x7 x8:D):(([x0,x1,x2,x3,x4,x5,x6,x7,x8]:List D).length < sizeLine)=True:=eq_true (zag (by show 9 < 100; decide) aU)
def tR (x0 x1 x2 x3 x4 x5 x6 x7 x8 x9:D):(([x0,x1,x2,x3,x4,x5,x6,x7,x8,x9]:List D).length < sizeLine)=True:=eq_true (zag (by show 10 < 100; decide) aU)
def tQ (x0 x1 x2 x3 x4 x5 x6 x7 x8 x9 x10:D):(([x0,x1,x2,x3,x4,x5,x6,x7,x8,x9,x10]:List D).length < sizeLine)=True:=eq_true (zag (by show 11 < 100; decide) aU)
def tP (x0 x1 x2 x3 x4 x5 x6 x7 x8 x9 x10 x11:D):(([x0,x1,x2,x3,x4,x5,x6,x7,x8,x9,x10,x11]:List D).length < sizeLine)=True:=eq_true (zag (by show 12 < 100; decide) aU)
def tO (x0 x1 x2 x3 x4 x5 x6 x7 x8 x9 x10 x11 x12:D):(([x0,x1,x2,x3,x4,x5,x6,x7,x8,x9,x10,x11,x12]:List D).length < sizeLine)=True:=eq_true (zag (by show 13 < 100; decide) aU)
def tN (x0 x1 x2 x3 x4 x5 x6 x7 x8 x9 x10 x11 x12 x13:D):(([x0,x1,x2,x3,x4,x5,x6,x7,x8,x9,x10,x11,x12,x13]:List D).length < sizeLine)=True:=eq_true (zag (by show 14 < 100; decide) aU)
def tM (x0 x1 x2 x3 x4 x5 x6 x7 x8 x9 x10 x11 x12 x13 x14:D):(([x0,x1,x2,x3,x4,x5,x6,x7,x8,x9,x10,x11,x12,x13,x14]:List D).length < sizeLine)=True:=eq_true (zag (by show 15 < 100; decide) aU)
def tL (x0 x1 x2 x3 x4 x5 x6 x7 x8 x9 x10 x11 x12 x13 x14 x15:D):(([x0,x1,x2,x3,x4,x5,x6,x7,x8,x9,x10,x11,x12,x13,x14,x15]:List D).length < sizeLine)=True:=eq_true (zag (by show 16 < 100; decide) aU)
def tK:kz [.list []]=some (.bool true):=rfl
def tJ (a:Bool):kz [.list [.bool a]]=some (.bool a):=by cases a <;> rfl
def tI (a b:Bool):kz [.list [.bool a,.bool b]]=some (.bool (a && b)):=by cases a <;> cases b <;> rfl
def tH:mZ [.list []]=some (.int 0):=rfl
def tG (a:Int):mZ [.list [.int a]]=some (.int a):=by show some (PyData.int (a+0))=_; rw [Int.add_zero]
def tE (a b:Int):mZ [.list [.int a,.int b]]=some (.int (a+b)):=by show some (PyData.int (a+(b+0)))=_; rw [Int.add_zero]
def tz (x:D) (l:List D):bK (x :: l) (some 1) none=l:=A2 x l
def tw (x:D) (l:List D):(HT.sIx (x :: l).length 0 (some 1)=0)=False:=FV x l
def tu (p:Prop):(False/\p)=False:=false_and p
def tq:(¬ False)=True:=not_false_eq_true
def tp:(!true)=false:=rfl
def tm:(!false)=true:=rfl
def tj (p:Prop):(True/\p)=p:=true_and p
def tf (p:Prop):(p/\True)=p:=and_true p
def s0 (_:Decidable True):decide True=true:=zaB trivial
def sZ (_:Decidable False):decide False=false:=zaA (fun z=>z)
def sY (α:Sort 1) (a:α):(a=a)=True:=eq_self a
end
def zzI {a b:Prop} (x:a) (y:b):a/\b:=⟨x,y⟩
def Bh:=zzI @ws0 (zzI @ws1 (zzI @ws2 (zzI @ws3 (zzI @ws4 (zzI @ws5 (zzI @ws6 (zzI @ws7 (zzI @ws8 (zzI @ws9 (zzI @CP (zzI @CO (zzI @CN (zzI @CM (zzI @CL (zzI @CK (zzI @CJ (zzI @CI (zzI @CH (zzI @CG (zzI @CF (zzI @CD (zzI @CC (zzI @CB (zzI @CA (zzI @Cz (zzI @Cy (zzI @Cw (zzI @Cv (zzI @Cu (zzI @Cs (zzI @Cr (zzI @Cq (zzI @Cp (zzI @Co (zzI @Cn (zzI @Cm (zzI @Ck (zzI @Cj @Ci))))))))))))))))))))))))))))))))))))))
def Bg:=zzI @Ch (zzI @Cg (zzI @Cf (zzI @Ce (zzI @Cd (zzI @Cc (zzI @Cb (zzI @Ca (zzI @B9 (zzI @B8 (zzI @B7 (zzI @B6 (zzI @B5 (zzI @B4 (zzI @B3 (zzI @B2 (zzI @B1 (zzI @B0 (zzI @BZ (zzI @BY (zzI @BX (zzI @BW (zzI @BV (zzI @BU (zzI @BT (zzI @BS (zzI @BR (zzI @BQ (zzI @BP (zzI @BO (zzI @BN (zzI @BM (zzI @BL (zzI @BK (zzI @BJ (zzI @BI (zzI @BH (zzI @BG (zzI @BF @BE))))))))))))))))))))))))))))))))))))))
def Bf:=zzI @BD (zzI @BC (zzI @BB (zzI @BA (zzI @Bz (zzI @By (zzI @Bx (zzI @Bw (zzI @Bv (zzI @Bu (zzI @Bs (zzI @Br (zzI @Bq (zzI @Bp (zzI @Bo (zzI @Bn (zzI @Bm (zzI @Bk (zzI @Bj (zzI @Bi (zzI @yZ (zzI @yY (zzI @yX (zzI @yW (zzI @yV (zzI @yU (zzI @yT (zzI @yS (zzI @yR (zzI @yQ (zzI @yP (zzI @yO (zzI @yN (zzI @yM (zzI @yL (zzI @yK (zzI @yJ (zzI @yI (zzI @yH @yG))))))))))))))))))))))))))))))))))))))
def Be:=zzI @yF (zzI @yE (zzI @yD (zzI @yC (zzI @yB (zzI @yA (zzI @yz (zzI @yy (zzI @yx (zzI @yw (zzI @yv (zzI @yu (zzI @yt (zzI @yr (zzI @yq (zzI @yp (zzI @yo (zzI @yn (zzI @ym (zzI @yk (zzI @yj (zzI @yi (zzI @yh (zzI @yg (zzI @yf (zzI @ye (zzI @yd (zzI @yc (zzI @yb (zzI @ya (zzI @xZ (zzI @xY (zzI @xX (zzI @xW (zzI @xV (zzI @xU (zzI @xT (zzI @xS (zzI @xR @xQ))))))))))))))))))))))))))))))))))))))
def Bd:=zzI @xP (zzI @xO (zzI @xN (zzI @xM (zzI @xL (zzI @xK (zzI @xJ (zzI @xI (zzI @xH (zzI @xG (zzI @xF (zzI @xE (zzI @xD (zzI @xC (zzI @xB (zzI @xA (zzI @xz (zzI @xy (zzI @xx (zzI @xw (zzI @xv (zzI @xu (zzI @xr (zzI @xq (zzI @xp (zzI @xo (zzI @xn (zzI @xm (zzI @xl (zzI @xk (zzI @xj (zzI @xi (zzI @xh (zzI @xg (zzI @xf (zzI @xc (zzI @xb (zzI @xa (zzI @w8 @w6))))))))))))))))))))))))))))))))))))))
def Bc:=zzI @w4 (zzI @wZ (zzI @wY (zzI @wX (zzI @wW (zzI @wV (zzI @wU (zzI @wT (zzI @wS (zzI @wR (zzI @wQ (zzI @wP (zzI @wO (zzI @wN (zzI @wM (zzI @wL (zzI @wK (zzI @wJ (zzI @wI (zzI @wH (zzI @wG (zzI @wF (zzI @wE (zzI @wD (zzI @wC (zzI @wB (zzI @wA (zzI @wz (zzI @wy (zzI @wx (zzI @wv (zzI @wu (zzI @wt (zzI @wq (zzI @wp (zzI @wo (zzI @wn (zzI @wm (zzI @wl @wj))))))))))))))))))))))))))))))))))))))
def Bb:=zzI @wg (zzI @wf (zzI @we (zzI @wd (zzI @wc (zzI @wa (zzI @v9 (zzI @v8 (zzI @vZ (zzI @vY (zzI @vX (zzI @vW (zzI @vV (zzI @vU (zzI @vS (zzI @vR (zzI @vQ (zzI @vP (zzI @vO (zzI @vN (zzI @vM (zzI @vK (zzI @vJ (zzI @vI (zzI @vH (zzI @vG (zzI @vF (zzI @vE (zzI @vD (zzI @vC (zzI @vB (zzI @vA (zzI @vz (zzI @vy (zzI @vx (zzI @vw (zzI @vv (zzI @vt (zzI @vr @vq))))))))))))))))))))))))))))))))))))))
def Ba:=zzI @vp (zzI @vo (zzI @vn (zzI @vm (zzI @vk (zzI @vj (zzI @vi (zzI @vh (zzI @vg (zzI @vf (zzI @ve (zzI @vd (zzI @vc (zzI @vb (zzI @va (zzI @u9 (zzI @u8 (zzI @u7 (zzI @u6 (zzI @u5 (zzI @u4 (zzI @u3 (zzI @u0 (zzI @uZ (zzI @uY (zzI @uX (zzI @uW (zzI @uV (zzI @uU (zzI @uS (zzI @uR (zzI @uQ (zzI @uP (zzI @uO (zzI @uN (zzI @uM (zzI @uK (zzI @uJ (zzI @uI @uH))))))))))))))))))))))))))))))))))))))
def A9:=zzI @uG (zzI @uF (zzI @uE (zzI @uD (zzI @uC (zzI @uB (zzI @uA (zzI @uz (zzI @uy (zzI @ux (zzI @uw (zzI @uv (zzI @uu (zzI @ur (zzI @uq (zzI @up (zzI @uo (zzI @um (zzI @uk (zzI @uj (zzI @ui (zzI @uh (zzI @ug (zzI @uf (zzI @ue (zzI @ud (zzI @uc (zzI @ub (zzI @ua (zzI @t9 (zzI @t8 (zzI @t7 (zzI @tZ (zzI @tY (zzI @tX (zzI @tW (zzI @tU (zzI @tT (zzI @tS @tR))))))))))))))))))))))))))))))))))))))
def A8:=zzI @tQ (zzI @tP (zzI @tO (zzI @tN (zzI @tM (zzI @tL (zzI @tK (zzI @tJ (zzI @tI (zzI @tH (zzI @tG (zzI @tE (zzI @tz (zzI @tw (zzI @tu (zzI @tq (zzI @tp (zzI @tm (zzI @tj (zzI @tf (zzI @s0 (zzI @sZ @sY)))))))))))))))))))))
def ws:=zzI @Bh (zzI @Bg (zzI @Bf (zzI @Be (zzI @Bd (zzI @Bc (zzI @Bb (zzI @Ba (zzI @A9 @A8))))))))
def iO {g:MG} {b:MS} {ts:List D} {en:En} {Q:Fl->Prop} (I:Nat->En->Prop) (h0:I 0 en)
  (hs:∀ i t en,ts[i]?=some t->I i en->W (g t en) (kFg b (I (i+1)) Q)) (hq:∀ en,I ts.length en->Q (.nx en)):W (dL g b ts en) Q:=by
 suffices ∀ (us:List D) (i:Nat) (en:En),ts.drop i=us->i<=ts.length->I i en->W (dL g b us en) Q from this ts 0 en rfl (Nat.zero_le _) h0
 intro us
 induction us with
 | nil =>
  intro i en hu hi h
  have:ts.length - i=0:=by rw [<- zaF,hu]; rfl
  simp only [ws];exact hq en (by rw [show ts.length=i by omega]; exact h)
 | cons t us ih =>
  intro i en hu hi h;have ht:ts[i]?=some t:=by
   have:(ts.drop i)[0]?=some t:=by rw [hu]; rfl
   rw [List.getElem?_drop] at this;exact this
  have hl:i < ts.length:=(zah.mp ht).1;have hd:ts.drop (i+1)=us:=by rw [<- List.drop_drop,hu]; rfl
  simp only [ws];refine (hs i t en ht h).use fun en1 h1=>?_;simp only [ws] at h1 ⊢;refine h1.use fun fl h2=>?_;cases fl with
  | nx e=>simp only [ws] at h2 ⊢; exact ih (i+1) e hd hl h2
  | ct e=>simp only [ws] at h2 ⊢; exact ih (i+1) e hd hl h2
  | rt t e=>simp only [ws] at h2 ⊢; exact h2
def sT {g:MG} {c:MT} {f:ME} {ts:List D} {en:En} {Q:List D × En->Prop} (I:Nat->List D->En->Prop) (hz:ts.length<=sizeLine) (h0:I 0 [] en)
  (hs:∀ i t us en,ts[i]?=some t->us.length<=i->I i us en->W (g t en) (DW c f us (I (i+1)))) (hq:∀ us en,us.length<=ts.length->I ts.length us en->Q (us,en)):W (lcF g c f ts [] en) Q:=by
 suffices ∀ (vs:List D) (i:Nat) (us:List D) (en:En),ts.drop i=vs->i<=ts.length->us.length<=i->I i us en->W (lcF g c f vs us en) Q from this ts 0 [] en rfl (Nat.zero_le _) (Nat.zero_le _) h0
 intro vs
 induction vs with
 | nil =>
  intro i us en hu hi hl h
  have:ts.length - i=0:=by rw [<- zaF,hu]; rfl
  simp only [ws];exact hq us en (by omega) (by rw [show ts.length=i by omega]; exact h)
 | cons t vs ih =>
  intro i us en hu hi hl h;have ht:ts[i]?=some t:=by
   have:(ts.drop i)[0]?=some t:=by rw [hu]; rfl
   rw [List.getElem?_drop] at this;exact this
  have hlt:i < ts.length:=(zah.mp ht).1;have hd:ts.drop (i+1)=vs:=by rw [<- List.drop_drop,hu]; rfl
  unfold lcF;rw [ay];refine (hs i t us en ht hl h).use fun en1 h1=>?_;simp only [ws] at h1;rw [ay];refine h1.use fun r h2=>?_;obtain ⟨x,en2⟩:=r;cases x with
  | true =>
   simp only [ws] at h2;show W ((f en2).bind _) Q;rw [ay];refine h2.use fun q h3=>?_;obtain ⟨u,en3⟩:=q;simp only [ws] at h3;show W (if us.length < sizeLine then _ else _) Q;rw [if_pos (by omega)];exact ih (i+1) _ _ hd hlt (by rw [zae]; show _+1<=_; omega) h3
  | false =>
   simp only [ws] at h2;exact ih (i+1) _ _ hd hlt (by omega) h2
def fy {f:ME} {ts:List D} {o:Option D} {rest:En} {Q:List D × En->Prop} (F:D->D) (hz:ts.length<=sizeLine) (hf:∀ t∈ts,W (f (some t :: rest)) (fun r=>r=(F t,some t :: rest))) (hq:∀ o',Q (ts.map F,o' :: rest)):W (lcF (gN 0) cY f ts [] (o :: rest)) Q:=by
 obtain ⟨o',e⟩:=Ak (f:=f) (F:=F) (rest:=rest) ts [] o (fun t ht=>by
  obtain ⟨r,e,h⟩:=(hf t ht).ex;rw [e,h]) (by simpa using hz)
 exact W.of e (hq o')
def mB {c:MT} {f:ME} {ts:List D} {o:Option D} {rest:En} {Q:List D × En->Prop} (p:D->Bool) (F:D->D) (hz:ts.length<=sizeLine) (hc:∀ t∈ts,W (c (some t :: rest)) (fun r=>r=(p t,some t :: rest))) (hf:∀ t∈ts,p t=true->W (f (some t :: rest)) (fun r=>r=(F t,some t :: rest))) (hq:∀ o',Q ((ts.filter p).map F,o' :: rest)):W (lcF (gN 0) c f ts [] (o :: rest)) Q:=by
 obtain ⟨o',e⟩:=fP (c:=c) (f:=f) (p:=p) (F:=F) (rest:=rest) ts [] o (fun t ht=>by
  obtain ⟨r,e,h⟩:=(hc t ht).ex;rw [e,h]) (fun t ht hp=>by
  obtain ⟨r,e,h⟩:=(hf t ht hp).ex;rw [e,h]) (by simpa using hz)
 exact W.of e (hq o')
def p8 {α:Type} {ts:List α} {i:Nat} {t:α} (h:ts[i]?=some t):ts.take (i+1)=ts.take i++[t]:=by
 rw [List.take_add_one,h]; rfl
def rm {g:MG} {b:MS} {ts:List D} {en:En} {Q:Fl->Prop} (J:En->Prop) (h0:J en) (hs:∀ t∈ts,∀ en,J en->W (g t en) (kFg b J Q)) (hq:∀ en,J en->Q (.nx en)):W (dL g b ts en) Q :=
 iO (fun _=>J) h0 (fun _ t en ht hj=>hs t (zaX ht) en hj) hq
def ek {i:Int} {n k:Nat} {t:D} (h:(gY i n)[k]?=some t):k < n/\t=.int (i+(k:Nat)):=by
 unfold gY at h;rw [zao] at h;obtain ⟨j,hj,rfl⟩:=zab.mp h;obtain ⟨hl,e⟩:=zah.mp hj;rw [List.getElem_range] at e;rw [List.length_range] at hl;exact ⟨hl,by rw [e]⟩
def cu (i:Int) (n:Nat):(gY i n).length=n:=by unfold gY; rw [zad,List.length_range]
def sz {n:Nat} (h:n<=1000):n<=sizeLine:=zau h Pen3.sl1000
def szl {n:Nat} (h:n < 1000):n < sizeLine:=zag h Pen3.sl1000
def ck {p:D} {m:Int} (hp:Pen3.IsPen p) (h3:0 < m) (h4:m < 1073741824) {Q:D × En->Prop} (h:∀ r p',0<=r->r < m->Pen3.IsPen p'->Q (.int r,[some p',none])):W (Pen3.F_law_draw [p,.int m]) Q:=by
 obtain ⟨r,p',e,h1,h2,h5⟩:=Pen3.draw_ok hp h3 h4;exact W.of e (h r p' h1 h2 h5)
def zN {ns:List Int} {k:Int} (h0:0<=k) {Q:D × En->Prop} (h:∀ p,Pen3.IsPen p->Q (p,[none,none])):W (Pen3.F_law_pen [.list (ns.map .int),.int k]) Q:=by
 obtain ⟨p,e,hp⟩:=Pen3.pen_ok h0;exact W.of e (h p hp)
end L2
set_option maxHeartbeats 1000000
namespace L2
namespace Tg
open PySem L2 Pen3
abbrev s1 (c:Nat):D:=.str (mk1 c)
def ev:Str:=("!\"#$&'()*+,-./0123456789:;<=>?@ABCDEFGHIJKLMNOPQRSTUVWXYZ" : Str)++("[\\]^_`abcdefghijklmnopqrstuvwxyz{|}~" : Str)
def nF:(li ev).length=93:=by decide +kernel
def FQ:(li ev).Nodup:=by decide +kernel
def AZ:∀ c∈li ev,33<=c/\c<=126/\c≠37:=by decide +kernel
def AY:("!\"#$&'()*+,-./0123456789:;<=>?@ABCDEFGHIJKLMNOPQRSTUVWXYZ" : Str).length+("[\\]^_`abcdefghijklmnopqrstuvwxyz{|}~" : Str).length<=sizeLine:=sz (by decide +kernel)
def gS:∀ (l:List Nat) (k:Nat),(l.map s1).eraseIdx k=(l.eraseIdx k).map s1
 | [],_=>rfl
 | a :: l,0=>rfl
 | a :: l,k+1=>by
  show s1 a :: (l.map s1).eraseIdx k=s1 a :: (l.eraseIdx k).map s1;rw [gS l k]
def jh {z:Str} (h:(li z).length<=1000):fO [.str z]=some (.list ((li z).map s1)):=by
 show grd (z.cps.size<=sizeLine) _=_;unfold grd;rw [if_pos (zau (by rw [<- zaY]; exact h) sl1000)];rfl
def F8 {left:List Nat} {k:Nat} (hk:k < left.length):o8 (left.map s1) (k:Int)=some (s1 left[k],(left.eraseIdx k).map s1):=by
 unfold o8;rw [zad,C6 (by omega) (by omega),zaL];show Option.map _ _=_;rw [zao,zak hk,gS];rfl
def Dq:ME:=eG 2 (ar F_law_draw (aO 1 (ac (eN aS (ac (af 2) ag)) ag)))
def rl {ts:List D} {left:List Nat} {p:D} {o:Option D} {Q:List D × En->Prop} (hp:IsPen p) (h1:ts.length<=left.length) (h2:left.length<=1000)
  (hq:∀ (cs left':List Nat) o' p',(cs++left').Perm left->cs.length=ts.length->IsPen p'->Q (cs.map s1,[o',some p',some (.list (left'.map s1))])):W (lcF (gN 0) cY Dq ts [] [o,some p,some (.list (left.map s1))]) Q:=by
 refine sT (fun i us en=>∃ (cs left':List Nat) (o:Option D) (p:D),us=cs.map s1/\en=[o,some p,some (.list (left'.map s1))]/\(cs++left').Perm left/\cs.length=i/\IsPen p) (sz (by omega)) ⟨[],left,o,p,rfl,rfl,List.Perm.refl _,rfl,hp⟩ ?_ ?_
 ·rintro i t us en ht hu ⟨cs,lf,o,p,rfl,rfl,hpm,hcs,hp⟩;have hi:i < ts.length:=(zah.mp ht).1;have hl:=hpm.length_eq;rw [zae] at hl;simp only [ws,Dq];refine ck hp (by omega) (by omega) fun r p' r0 r1 hp'=>?_;obtain ⟨k,rfl⟩:∃ k:Nat,r=k:=⟨r.toNat,(Int.toNat_of_nonneg r0).symm⟩;have hk:k < lf.length:=by omega
  simp only [ws,F8 hk];refine ⟨by omega,cs++[lf[k]],lf.eraseIdx k,some t,p',by rw [zaC]; rfl,rfl,?_,by rw [zae,hcs]; rfl,hp'⟩;rw [zaD];exact (List.Perm.append_left cs (lg lf k hk)).trans hpm
 ·rintro us en hu ⟨cs,lf,o,p,rfl,rfl,hpm,hcs,hp⟩;exact hq cs lf o p hpm hcs hp
def pQ {α:Type} (xs:List α) (n:Nat):bK xs (some (n:Int)) none=xs.drop n:=by
 unfold bK;rw [HT.sIx_none,HT.sIx_nat,List.take_of_length_le (by rw [zaF]; exact zav _)];by_cases h:n<=xs.length
 ·rw [Nat.min_eq_left h]
 ·rw [Nat.min_eq_right (by omega),List.drop_eq_nil_of_le (zav _),List.drop_eq_nil_of_le (by omega)]
def lh {α:Type} (xs:List α) (n:Nat):bK xs none (some (n:Int))=xs.take n:=by
 unfold bK;rw [HT.sIx_none,HT.sIx_nat,List.drop_zero,Nat.sub_zero];by_cases h:n<=xs.length
 ·rw [Nat.min_eq_left h]
 ·rw [Nat.min_eq_right (by omega),List.take_of_length_le (zav _),List.take_of_length_le (by omega)]
def kb:∀ ks:List Str,joinD.strsOf (ks.map .str)=some ks
 | []=>rfl
 | c :: cs=>by
  show (joinD.strsOf (cs.map .str)).map (c :: ·)=_;rw [kb cs];rfl
def ma {ks:List Str} (h:(aH ks).length<=1000) (h2:ks.length<=1000):joinD "" [.tuple (ks.map .str)]=some (.str (ofL (aH ks)))/\joinD "" [.list (ks.map .str)]=some (.str (ofL (aH ks))):=by
 have e:ofL (aH ks)=Txt.join "" ks:=(DE (EQ ks)).symm;constructor
 ·show (joinD.strsOf (ks.map .str)).bind _=_;rw [kb];show (if _ then _ else _)=_;rw [if_pos ⟨by decide,by rw [nN]; omega⟩,e]
 ·show (joinD.strsOf (ks.map .str)).bind _=_;rw [kb];show (if _ then _ else _)=_;rw [if_pos ⟨by decide,by rw [nN]; omega⟩,e]
def lK {cs:List Nat} (h:cs.length<=1000):joinD "" [.list (cs.map s1)]=some (.str (ofL cs)):=by
 have e:(cs.map s1)=(cs.map mk1).map PyData.str:=by rw [List.map_map]; rfl
 have h2:=(ma (ks:=cs.map mk1) (by rw [nM]; exact h) (by rw [zad]; exact h)).2;rw [nM] at h2;rw [e];exact h2
structure TOk (ks:List Str):Prop where
 n1:1<=ks.length
 n4:ks.length<=4
 fu:∀ k∈ks,1<=(li k).length/\(li k).length<=6
 nd:(aH ks).Nodup
 l12:(aH ks).length<=12
 l1:1<=(aH ks).length
 mem:∀ c∈aH ks,c∈li ev
def tD (ks:List Str):D:=.tuple (ks.map .str)
abbrev sgs (ks:List Str):Str:=ofL (aH ks)
def fX {ks:List Str} (T:TOk ks):joinD "" [tD ks]=some (.str (sgs ks)):=(ma (by have:=T.l12; omega) (by have:=T.n4; omega)).1
def Aj (cs:List Nat):(ofL cs).length=cs.length:=by show cs.toArray.size=_; rw [zai]
def hds:((("long" : Str)=("least" : Str))=False)/\((("long" : Str)=("often" : Str))=False)/\((("long" : Str)=("apart" : Str))=False)/\((("long" : Str)=("without" : Str))=False)/\((("long" : Str)=("begins" : Str))=False)/\((("long" : Str)=("ends" : Str))=False)/\((("long" : Str)=("not" : Str))=False)/\((("long" : Str)=("both" : Str))=False)/\((("long" : Str)=("either" : Str))=False)/\((("least" : Str)=("long" : Str))=False)/\((("least" : Str)=("often" : Str))=False)/\((("least" : Str)=("apart" : Str))=False)/\((("least" : Str)=("without" : Str))=False)/\((("least" : Str)=("begins" : Str))=False)/\((("least" : Str)=("ends" : Str))=False)/\((("least" : Str)=("not" : Str))=False)/\((("least" : Str)=("both" : Str))=False)/\((("least" : Str)=("either" : Str))=False)/\((("often" : Str)=("long" : Str))=False)/\((("often" : Str)=("least" : Str))=False)/\((("often" : Str)=("apart" : Str))=False)/\((("often" : Str)=("without" : Str))=False)/\((("often" : Str)=("begins" : Str))=False)/\((("often" : Str)=("ends" : Str))=False)/\((("often" : Str)=("not" : Str))=False)/\((("often" : Str)=("both" : Str))=False)/\((("often" : Str)=("either" : Str))=False)/\((("apart" : Str)=("long" : Str))=False)/\((("apart" : Str)=("least" : Str))=False)/\((("apart" : Str)=("often" : Str))=False)/\((("apart" : Str)=("without" : Str))=False)/\((("apart" : Str)=("begins" : Str))=False)/\((("apart" : Str)=("ends" : Str))=False)/\((("apart" : Str)=("not" : Str))=False)/\((("apart" : Str)=("both" : Str))=False)/\((("apart" : Str)=("either" : Str))=False)/\((("without" : Str)=("long" : Str))=False)/\((("without" : Str)=("least" : Str))=False)/\((("without" : Str)=("often" : Str))=False)/\((("without" : Str)=("apart" : Str))=False)/\((("without" : Str)=("begins" : Str))=False)/\((("without" : Str)=("ends" : Str))=False)/\((("without" : Str)=("not" : Str))=False)/\((("without" : Str)=("both" : Str))=False)/\((("without" : Str)=("either" : Str))=False)/\((("begins" : Str)=("long" : Str))=False)/\((("begins" : Str)=("least" : Str))=False)/\((("begins" : Str)=("often" : Str))=False)/\((("begins" : Str)=("apart" : Str))=False)/\((("begins" : Str)=("without" : Str))=False)/\((("begins" : Str)=("ends" : Str))=False)/\((("begins" : Str)=("not" : Str))=False)/\((("begins" : Str)=("both" : Str))=False)/\((("begins" : Str)=("either" : Str))=False)/\((("ends" : Str)=("long" : Str))=False)/\((("ends" : Str)=("least" : Str))=False)/\((("ends" : Str)=("often" : Str))=False)/\((("ends" : Str)=("apart" : Str))=False)/\((("ends" : Str)=("without" : Str))=False)/\((("ends" : Str)=("begins" : Str))=False)/\((("ends" : Str)=("not" : Str))=False)/\((("ends" : Str)=("both" : Str))=False)/\((("ends" : Str)=("either" : Str))=False)/\((("not" : Str)=("long" : Str))=False)/\((("not" : Str)=("least" : Str))=False)/\((("not" : Str)=("often" : Str))=False)/\((("not" : Str)=("apart" : Str))=False)/\((("not" : Str)=("without" : Str))=False)/\((("not" : Str)=("begins" : Str))=False)/\((("not" : Str)=("ends" : Str))=False)/\((("not" : Str)=("both" : Str))=False)/\((("not" : Str)=("either" : Str))=False)/\((("both" : Str)=("long" : Str))=False)/\((("both" : Str)=("least" : Str))=False)/\((("both" : Str)=("often" : Str))=False)/\((("both" : Str)=("apart" : Str))=False)/\((("both" : Str)=("without" : Str))=False)/\((("both" : Str)=("begins" : Str))=False)/\((("both" : Str)=("ends" : Str))=False)/\((("both" : Str)=("not" : Str))=False)/\((("both" : Str)=("either" : Str))=False)/\((("either" : Str)=("long" : Str))=False)/\((("either" : Str)=("least" : Str))=False)/\((("either" : Str)=("often" : Str))=False)/\((("either" : Str)=("apart" : Str))=False)/\((("either" : Str)=("without" : Str))=False)/\((("either" : Str)=("begins" : Str))=False)/\((("either" : Str)=("ends" : Str))=False)/\((("either" : Str)=("not" : Str))=False)/\((("either" : Str)=("both" : Str))=False):=by
 refine ⟨?_,?_,?_,?_,?_,?_,?_,?_,?_,?_,?_,?_,?_,?_,?_,?_,?_,?_,?_,?_,?_,?_,?_,?_,?_,?_,?_,?_,?_,?_,?_,?_,?_,?_,?_,?_,?_,?_,?_,?_,?_,?_,?_,?_,?_,?_,?_,?_,?_,?_,?_,?_,?_,?_,?_,?_,?_,?_,?_,?_,?_,?_,?_,?_,?_,?_,?_,?_,?_,?_,?_,?_,?_,?_,?_,?_,?_,?_,?_,?_,?_,?_,?_,?_,?_,?_,?_,?_,?_,?_⟩ <;> exact eq_false (by decide +kernel)
end Tg
end L2
namespace L2
namespace Tg
open PySem L2 Pen3
def qa (z y:Str) (i:Nat):Builtin.Str.subAt z y i=((((li z).drop i).take (li y).length) == li y):=StrLaws.subAt_eq z y i
def nr (z:Str):(li z).length=z.length:=zaY
def D1 (z y:Str):cg z y=true↔li y <:+: li z:=by
 have a:=nr z;have b:=nr y;unfold cg;rw [StrLaws.found_iff];constructor
 ·rintro ⟨i,h1,h2⟩;rw [qa,beq_iff_eq] at h2;refine ⟨(li z).take i,((li z).drop i).drop (li y).length,?_⟩;rw [zaD]
  conv=>rhs; rw [<- List.take_append_drop i (li z)]
  congr 1
  conv=>rhs; rw [<- List.take_append_drop (li y).length ((li z).drop i)]
  rw [h2]
 ·rintro ⟨s,t,h⟩;refine ⟨s.length,?_,?_⟩
  ·have:=congrArg List.length h;rw [zae,zae] at this;omega
  ·rw [qa,beq_iff_eq,<- h,zaD,List.drop_left,List.take_left]
abbrev rv (z:Str):Str:=⟨z.cps.toList.reverse.toArray⟩
end Tg
end L2
set_option maxHeartbeats 4000000
namespace W04
open PySem L2
def top (i:Nat):Stmt:=PySem.Challenge.pw_wordrules_k04_sentences_of_anything.main.body.getD i (.Pass ⟨0,0,0,0⟩)
structure Bl (mg:Str->Option Value):Prop where
 abs0:mg "abs"=none
 all0:mg "all"=none
 bool0:mg "bool"=none
 int0:mg "int"=none
 isinstance0:mg "isinstance"=none
 len0:mg "len"=none
 list0:mg "list"=none
 min0:mg "min"=none
 range0:mg "range"=none
 repr0:mg "repr"=none
 set0:mg "set"=none
 str0:mg "str"=none
 sum0:mg "sum"=none
 tuple0:mg "tuple"=none
section
variable {P:Program} {w:World} {K:PySem.W.Frag} {mg:Str->Option Value} {base:Heap} {f:Addr} {fd:FuncData}
abbrev ib:Stmt:=top 2
abbrev j6:List Str:=["signs"]
def scare_unlike:FnScope j6 ["signs"] (ap ib):=⟨rfl,rfl,rfl,by decide +kernel,rfl,by decide +kernel,by decide +kernel⟩
def il:MS:=(aD (e2 eqD (e1 kT (af 0)) (eN aS (ac (af 0) ag))))
def c7:List D->Option (D × En):=fnF 0 [0] il
def na {k:Nat} (T:Bl mg)   (F:Fun K "are_unlike" "are_unlike" ib f fd):FnOk P w K mg base CX0 (k+1) f fd ["signs"] (spF K [0] 3 c7):=by
 have nd:=scare_unlike.nd;refine F.okQ (N:=j6) (b:=il) (J:=⟨[],[0],3,[]⟩) (ds0:=[0]) scare_unlike rfl rfl rfl rfl fun cdv A outer s H E hr=>?_;exact (frt (bN (gR (K:=K) rfl hr.units) (oh (K:=K) rfl rfl rfl T.len0 rfl T.set0 (by decide +kernel) (by decide +kernel) (fv 0 rfl rfl) rfl) (fln rfl T.len0 (aa (fv 0 rfl rfl) ad rfl) rfl rfl) (bA _)) rfl)
abbrev jr:Stmt:=top 4
abbrev mC:List Str:=["tongue"]
def scsigns_of:FnScope mC ["tongue"] (ap jr):=⟨rfl,rfl,rfl,by decide +kernel,rfl,by decide +kernel,by decide +kernel⟩
def jH:MS:=(aD (eM joinD (eC (.str "")) (ac (af 0) ag)))
def eD:List D->Option (D × En):=fnF 0 [0] jH
def ph {k:Nat} (T:Bl mg)   (F:Fun K "signs_of" "signs_of" jr f fd):FnOk P w K mg base CX0 (k+1) f fd ["tongue"] (spF K [0] 3 eD):=by
 have nd:=scsigns_of.nd;refine F.okQ (N:=mC) (b:=jH) (J:=⟨[],[0],3,[]⟩) (ds0:=[0]) scsigns_of rfl rfl rfl rfl fun cdv A outer s H E hr=>?_;exact (frt (cy (K:=K) rfl PySem.F.slot_str_join PySem.F.type_str_join (dA rfl) dB ai (aa (fv 0 rfl rfl) ad rfl) rfl rfl rfl rfl rfl rfl) rfl)
abbrev iP:Stmt:=top 3
abbrev kB:List Str:=["tongue", "thing", "signs"]
def scis_word:FnScope kB ["tongue", "thing"] (ap iP):=⟨rfl,rfl,rfl,by decide +kernel,rfl,by decide +kernel,by decide +kernel⟩
def lB:ME:=(e2 pK (af 0) (af 1))
def dm:MS:=(ao (sIf (bOr (di (tV (e1 (aC "str") (af 1)))) (tV (e2 gtI (eN aS (ac (af 1) ag)) (eC (.int 60))))) (aD (eC (.bool false))) aW)
 (ao (aA 2 (ar eD (ac (af 0) ag)))
 (aD (eN kz (ac (eLC true (c9 (af 1)) (gN 0) cY lB [none,some 2]) ag)))))
def bP:List D->Option (D × En):=fnF 1 [0,0] dm
def qo {k:Nat} (T:Bl mg) {gM:Tok} (hW:mg "MOST_SIGNS_OF_A_WORD"=some (.int 60 gM)) (rp:Kn P w K mg base k "signs_of" ["tongue"] (spF K [0] 3 eD)) (F:Fun K "is_word" "is_word" iP f fd):FnOk P w K mg base CX0 (k+1) f fd ["tongue", "thing"] (spF K [0,0] 3 bP):=by
 have nd:=scis_word.nd;refine F.okQ (N:=kB) (b:=dm) (J:=⟨[],[0,0,0],3,[]⟩) (ds0:=[0,0,0]) scis_word rfl rfl rfl rfl fun cdv A outer s H E hr=>?_;exact (ah (aF (ds2:=[0,0,0]) (qpt (bu (bL (bB (cj (K:=K) (n:="str") rfl rfl T.isinstance0 rfl T.str0 (by decide +kernel) (by decide) (fv 1 rfl rfl) (by decide) rfl rfl rfl rfl) (fun _=>rfl))) (cC (bC mS (fln rfl T.len0 (aa (fv 1 rfl rfl) ad rfl) rfl rfl) (b6 rfl hW rfl) (bA _))))) (frt bv rfl) az) (ah (cM (i:=2) (d:=0) (ds':=[0,0,0]) nd rfl (.inr rfl) (fs0 (fnn rp hr (aa (fv 0 rfl rfl) ad rfl) rfl rfl)) rfl (by decide) (by decide) rfl (.inl rfl)) (frt (fcb (qQ (K:=K) rfl rfl) T.all0 (by decide +kernel) (aa (fs0 (cc (cd:=3) (d:=3) (dsi:=[0,0]) (lk:=[1]) (BlkOkC.of (ns:=["sign", "signs"]) (js:=[none,some 2]) (N0:=kB) (sc0:=ap iP) rfl rfl (by decide +kernel)) rfl (bI (K:=K) rfl (fv 1 rfl rfl)) (fun _ _ _ _ _=>(aI (i:=0) (ds':=[0,0]) (show (["sign", "signs"]:List Str).Nodup by decide +kernel) rfl (.inl rfl) rfl (by decide) (by decide) (.inr rfl))) (fun _ _ _ _ _=>bi) (fun _ _ _ _ _=>(bN qP (fv 0 rfl rfl) (fvc 1 rfl rfl) (by with_unfolding_all rfl))) rfl rfl (by decide) rfl (fun _=>rfl))) ad rfl) rfl rfl) rfl)))
abbrev jt:Stmt:=top 6
abbrev mD:List Str:=["thing"]
def scis_whole:FnScope mD ["thing"] (ap jt):=⟨rfl,rfl,rfl,by decide +kernel,rfl,by decide +kernel,by decide +kernel⟩
def dq:MS:=(aD (cG (e1 (aC "int") (af 0)) (kr (e1 (aC "bool") (af 0)))))
def cA:List D->Option (D × En):=fnF 0 [0] dq
def pi {k:Nat} (T:Bl mg)   (F:Fun K "is_whole" "is_whole" jt f fd):FnOk P w K mg base CX0 (k+1) f fd ["thing"] (spF K [0] 3 cA):=by
 have nd:=scis_whole.nd;refine F.okQ (N:=mD) (b:=dq) (J:=⟨[],[0],3,[]⟩) (ds0:=[0]) scis_whole rfl rfl rfl rfl fun cdv A outer s H E hr=>?_;exact (frt (bw (cj (K:=K) (n:="int") rfl rfl T.isinstance0 rfl T.int0 (by decide +kernel) (by decide) (fv 0 rfl rfl) (by decide) rfl rfl rfl rfl) (bJ (nE (cj (K:=K) (n:="bool") rfl rfl T.isinstance0 rfl T.bool0 (by decide +kernel) (by decide) (fv 0 rfl rfl) (by decide) rfl rfl rfl rfl)))) rfl)
abbrev dZ:Stmt:=top 7
abbrev gy:List Str:=["thing", "low", "high"]
def scis_whole_within:FnScope gy ["thing", "low", "high"] (ap dZ):=⟨rfl,rfl,rfl,by decide +kernel,rfl,by decide +kernel,by decide +kernel⟩
def bx:MS:=(aD (cG (ar cA (ac (af 0) ag)) (eH leI leI (af 1) (af 0) (af 2))))
def aJ:List D->Option (D × En):=fnF 0 [0,0,0] bx
def jT {k:Nat} (T:Bl mg)  (rz:Kn P w K mg base k "is_whole" ["thing"] (spF K [0] 3 cA)) (F:Fun K "is_whole_within" "is_whole_within" dZ f fd):FnOk P w K mg base CX0 (k+1) f fd ["thing", "low", "high"] (spF K [0,0,0] 3 aJ):=by
 have nd:=scis_whole_within.nd;refine F.okQ (N:=gy) (b:=bx) (J:=⟨[],[0,0,0],3,[]⟩) (ds0:=[0,0,0]) scis_whole_within rfl rfl rfl rfl fun cdv A outer s H E hr=>?_;exact (frt (bw (fnn rz hr (aa (fv 0 rfl rfl) ad rfl) rfl rfl) (bJ (fQ fg fg (fv 1 rfl rfl) (fv 0 rfl rfl) (fv 2 rfl rfl) (by with_unfolding_all rfl)))) rfl)
abbrev eL:Stmt:=top 18
abbrev gW:List Str:=["head"]
def schow_many_parts:FnScope gW ["head"] (ap eL):=⟨rfl,rfl,rfl,by decide +kernel,rfl,by decide +kernel,by decide +kernel⟩
def a6:MS:=(ao (sIf (tV (e2 eqD (af 0) (eC (.str "not")))) (aD (eC (.int 1))) aW)
 (ao (sIf (bOr (tV (e2 eqD (af 0) (eC (.str "both")))) (tV (e2 eqD (af 0) (eC (.str "either"))))) (aD (eC (.int 2))) aW)
 (aD (eC (.int 0)))))
def aK:List D->Option (D × En):=fnF 0 [0] a6
def ki {k:Nat} (T:Bl mg)   (F:Fun K "how_many_parts" "how_many_parts" eL f fd):FnOk P w K mg base CX0 (k+1) f fd ["head"] (spF K [0] 3 aK):=by
 have nd:=schow_many_parts.nd;refine F.okQ (N:=gW) (b:=a6) (J:=⟨[],[0],3,[]⟩) (ds0:=[0]) schow_many_parts rfl rfl rfl rfl fun cdv A outer s H E hr=>?_;exact (ah (aF (ds2:=[0]) (fte rfl hr.units (fv 0 rfl rfl) ai) (frt ae rfl) az) (ah (aF (ds2:=[0]) (qpt (bu (fte rfl hr.units (fv 0 rfl rfl) ai) (cC (fte rfl hr.units (fv 0 rfl rfl) ai)))) (frt ae rfl) az) (frt ae rfl)))
abbrev ee:Stmt:=top 22
abbrev gz:List Str:=["low", "high"]
def scis_low_and_high:FnScope gz ["low", "high"] (ap ee):=⟨rfl,rfl,rfl,by decide +kernel,rfl,by decide +kernel,by decide +kernel⟩
def eh:MS:=(ao (sIf (di (tV (ar aJ (ac (af 0) (ac (eC (.int 0)) (ac (eC (.int 30)) ag)))))) (aD (eC (.bool false))) aW)
 (aD (eOr (e2 isN (af 1) (eC .none)) (ar aJ (ac (af 1) (ac (af 0) (ac (eC (.int 30)) ag)))))))
def bQ:List D->Option (D × En):=fnF 0 [0,0] eh
def jU {k:Nat} (T:Bl mg) {jR:Tok} (gk:mg "HIGHEST_LENGTH"=some (.int 30 jR)) (bO:Kn P w K mg base k "is_whole_within" ["thing", "low", "high"] (spF K [0,0,0] 3 aJ)) (F:Fun K "is_low_and_high" "is_low_and_high" ee f fd):FnOk P w K mg base CX0 (k+1) f fd ["low", "high"] (spF K [0,0] 3 bQ):=by
 have nd:=scis_low_and_high.nd;refine F.okQ (N:=gz) (b:=eh) (J:=⟨[],[0,0],3,[]⟩) (ds0:=[0,0]) scis_low_and_high rfl rfl rfl rfl fun cdv A outer s H E hr=>?_;exact (ah (aF (ds2:=[0,0]) (bL (bB (fnn bO hr (aa (fv 0 rfl rfl) (aa (fs0 ae) (aa (fs0 (b6 rfl gk rfl)) ad rfl) rfl) rfl) rfl rfl) (fun _=>rfl))) (frt bv rfl) az) (frt (oI (bN qO (fv 1 rfl rfl) cS (bA _)) (bJ (fnn bO hr (aa (fv 1 rfl rfl) (aa (fv 0 rfl rfl) (aa (fs0 (b6 rfl gk rfl)) ad rfl) rfl) rfl) rfl rfl))) rfl))
abbrev fI:Stmt:=top 21
abbrev i3:List Str:=["tongue", "thing"]
def scis_told_word:FnScope i3 ["tongue", "thing"] (ap fI):=⟨rfl,rfl,rfl,by decide +kernel,rfl,by decide +kernel,by decide +kernel⟩
def cV:MS:=(aD (cG (ar bP (ac (af 0) (ac (af 1) ag))) (eH leI leI (eC (.int 1)) (eN aS (ac (af 1) ag)) (eC (.int 6)))))
def a9:List D->Option (D × En):=fnF 0 [0,0] cV
def lH {k:Nat} (T:Bl mg) {i8:Tok} (jW:mg "MOST_SIGNS_TOLD"=some (.int 6 i8)) (kC:Kn P w K mg base k "is_word" ["tongue", "thing"] (spF K [0,0] 3 bP)) (F:Fun K "is_told_word" "is_told_word" fI f fd):FnOk P w K mg base CX0 (k+1) f fd ["tongue", "thing"] (spF K [0,0] 3 a9):=by
 have nd:=scis_told_word.nd;refine F.okQ (N:=i3) (b:=cV) (J:=⟨[],[0,0],3,[]⟩) (ds0:=[0,0]) scis_told_word rfl rfl rfl rfl fun cdv A outer s H E hr=>?_;exact (frt (bw (fnn kC hr (aa (fv 0 rfl rfl) (aa (fv 1 rfl rfl) ad rfl) rfl) rfl rfl) (bJ (fQ fg fg ae (fln rfl T.len0 (aa (fv 1 rfl rfl) ad rfl) rfl rfl) (b6 rfl jW rfl) (by with_unfolding_all rfl)))) rfl)
abbrev eK:Stmt:=top 23
abbrev gU:List Str:=["tongue", "thing"]
def scis_often_signs:FnScope gU ["tongue", "thing"] (ap eK):=⟨rfl,rfl,rfl,by decide +kernel,rfl,by decide +kernel,by decide +kernel⟩
def cB:MS:=(aD (cG (ar bP (ac (af 0) (ac (af 1) ag))) (cG (eH leI leI (eC (.int 1)) (eN aS (ac (af 1) ag)) (eC (.int 4))) (ar c7 (ac (af 1) ag)))))
def be:List D->Option (D × En):=fnF 0 [0,0] cB
def kh {k:Nat} (T:Bl mg) {i5:Tok} (jl:mg "MOST_OFTEN_SIGNS"=some (.int 4 i5)) (kC:Kn P w K mg base k "is_word" ["tongue", "thing"] (spF K [0,0] 3 bP)) (om:Kn P w K mg base k "are_unlike" ["signs"] (spF K [0] 3 c7)) (F:Fun K "is_often_signs" "is_often_signs" eK f fd):FnOk P w K mg base CX0 (k+1) f fd ["tongue", "thing"] (spF K [0,0] 3 be):=by
 have nd:=scis_often_signs.nd;refine F.okQ (N:=gU) (b:=cB) (J:=⟨[],[0,0],3,[]⟩) (ds0:=[0,0]) scis_often_signs rfl rfl rfl rfl fun cdv A outer s H E hr=>?_;exact (frt (bw (fnn kC hr (aa (fv 0 rfl rfl) (aa (fv 1 rfl rfl) ad rfl) rfl) rfl rfl) (bw (fQ fg fg ae (fln rfl T.len0 (aa (fv 1 rfl rfl) ad rfl) rfl rfl) (b6 rfl jl rfl) (by with_unfolding_all rfl)) (bJ (fnn om hr (aa (fv 1 rfl rfl) ad rfl) rfl rfl)))) rfl)
abbrev iQ:Stmt:=top 20
abbrev ls:List Str:=["tongue", "thing", "head"]
def scis_simple:FnScope ls ["tongue", "thing"] (ap iQ):=⟨rfl,rfl,rfl,by decide +kernel,rfl,by decide +kernel,by decide +kernel⟩
def ax:MS:=(ao (aA 2 (e2 ixA (af 1) (eC (.int 0))))
 (ao (sIf (tV (e2 eqD (af 2) (eC (.str "apart")))) (aD (e2 eqD (eN aS (ac (af 1) ag)) (eC (.int 1)))) aW)
 (ao (sIf (bOr (tV (e2 eqD (af 2) (eC (.str "without")))) (bOr (tV (e2 eqD (af 2) (eC (.str "begins")))) (tV (e2 eqD (af 2) (eC (.str "ends")))))) (aD (cG (e2 eqD (eN aS (ac (af 1) ag)) (eC (.int 2))) (ar a9 (ac (af 0) (ac (e2 ixA (af 1) (eC (.int 1))) ag))))) aW)
 (ao (sIf (tV (e2 neD (eN aS (ac (af 1) ag)) (eC (.int 3)))) (aD (eC (.bool false))) aW)
 (ao (sIf (tV (e2 eqD (af 2) (eC (.str "long")))) (aD (ar bQ (ac (e2 ixA (af 1) (eC (.int 1))) (ac (e2 ixA (af 1) (eC (.int 2))) ag)))) aW)
 (ao (sIf (tV (e2 eqD (af 2) (eC (.str "least")))) (aD (cG (ar aJ (ac (e2 ixA (af 1) (eC (.int 1))) (ac (eC (.int 0)) (ac (e2 ce (eN aS (ac (af 0) ag)) (eC (.int 1))) ag)))) (ar aJ (ac (e2 ixA (af 1) (eC (.int 2))) (ac (eC (.int 0)) (ac (eC (.int 9)) ag)))))) aW)
 (ao (sIf (tV (e2 eqD (af 2) (eC (.str "often")))) (aD (cG (ar be (ac (af 0) (ac (e2 ixA (af 1) (eC (.int 1))) ag))) (ar aJ (ac (e2 ixA (af 1) (eC (.int 2))) (ac (eC (.int 0)) (ac (eC (.int 3)) ag)))))) aW)
 (aD (eC (.bool false))))))))))
def au:List D->Option (D × En):=fnF 1 [0,0] ax
def nX {k:Nat} (T:Bl mg) {ka:Tok} (k6:mg "HIGHEST_LEAST"=some (.int 9 ka)) {j9:Tok} (k5:mg "HIGHEST_OFTEN"=some (.int 3 j9)) (kE:Kn P w K mg base k "is_low_and_high" ["low", "high"] (spF K [0,0] 3 bQ)) (mO:Kn P w K mg base k "is_told_word" ["tongue", "thing"] (spF K [0,0] 3 a9)) (bO:Kn P w K mg base k "is_whole_within" ["thing", "low", "high"] (spF K [0,0,0] 3 aJ)) (lz:Kn P w K mg base k "is_often_signs" ["tongue", "thing"] (spF K [0,0] 3 be)) (F:Fun K "is_simple" "is_simple" iQ f fd):FnOk P w K mg base CX0 (k+1) f fd ["tongue", "thing"] (spF K [0,0] 3 au):=by
 have nd:=scis_simple.nd;refine F.okQ (N:=ls) (b:=ax) (J:=⟨[],[0,0,0],3,[]⟩) (ds0:=[0,0,0]) scis_simple rfl rfl rfl rfl fun cdv A outer s H E hr=>?_;exact (ah (aM 2 [0,0,0] nd (fxi rfl (fv 1 rfl rfl)) rfl rfl rfl) (ah (aF (ds2:=[0,0,0]) (fte rfl hr.units (fv 2 rfl rfl) ai) (frt (bN (gR (K:=K) rfl hr.units) (fln rfl T.len0 (aa (fv 1 rfl rfl) ad rfl) rfl rfl) ae (bA _)) rfl) az) (ah (aF (ds2:=[0,0,0]) (qpt (bu (fte rfl hr.units (fv 2 rfl rfl) ai) (bu (fte rfl hr.units (fv 2 rfl rfl) ai) (cC (fte rfl hr.units (fv 2 rfl rfl) ai))))) (frt (bw (bN (gR (K:=K) rfl hr.units) (fln rfl T.len0 (aa (fv 1 rfl rfl) ad rfl) rfl rfl) ae (bA _)) (bJ (fnn mO hr (aa (fv 0 rfl rfl) (aa (fxi rfl (fv 1 rfl rfl)) ad rfl) rfl) rfl rfl))) rfl) az) (ah (aF (ds2:=[0,0,0]) (ftn rfl hr.units (fln rfl T.len0 (aa (fv 1 rfl rfl) ad rfl) rfl rfl) ae) (frt bv rfl) az) (ah (aF (ds2:=[0,0,0]) (fte rfl hr.units (fv 2 rfl rfl) ai) (frt (fnn kE hr (aa (fxi rfl (fv 1 rfl rfl)) (aa (fxi rfl (fv 1 rfl rfl)) ad rfl) rfl) rfl rfl) rfl) az) (ah (aF (ds2:=[0,0,0]) (fte rfl hr.units (fv 2 rfl rfl) ai) (frt (bw (fnn bO hr (aa (fxi rfl (fv 1 rfl rfl)) (aa (fs0 ae) (aa (fs0 (ak bM (fln rfl T.len0 (aa (fv 0 rfl rfl) ad rfl) rfl rfl) ae)) ad rfl) rfl) rfl) rfl rfl) (bJ (fnn bO hr (aa (fxi rfl (fv 1 rfl rfl)) (aa (fs0 ae) (aa (fs0 (b6 rfl k6 rfl)) ad rfl) rfl) rfl) rfl rfl))) rfl) az) (ah (aF (ds2:=[0,0,0]) (fte rfl hr.units (fv 2 rfl rfl) ai) (frt (bw (fnn lz hr (aa (fv 0 rfl rfl) (aa (fxi rfl (fv 1 rfl rfl)) ad rfl) rfl) rfl rfl) (bJ (fnn bO hr (aa (fxi rfl (fv 1 rfl rfl)) (aa (fs0 ae) (aa (fs0 (b6 rfl k5 rfl)) ad rfl) rfl) rfl) rfl rfl))) rfl) az) (frt bv rfl))))))))
abbrev fW:Stmt:=top 17
abbrev iV:List Str:=["tongue", "thing", "deep", "many"]
def scis_formed:FnScope iV ["tongue", "thing", "deep"] (ap fW):=⟨rfl,rfl,rfl,by decide +kernel,rfl,by decide +kernel,by decide +kernel⟩
def gC (self:List D->Option (D × En)):ME:=(ar self (ac (af 1) (ac (af 0) (ac (e2 ce (af 2) (eC (.int 1))) ag))))
def aQ (self:List D->Option (D × En)):MS:=(ao (sIf (bOr (tV (e2 eqD (af 2) (eC (.int 0)))) (bOr (di (tV (e1 (aC "tuple") (af 1)))) (bOr (tV (e2 eqD (eN aS (ac (af 1) ag)) (eC (.int 0)))) (di (tV (e1 (aC "str") (e2 ixA (af 1) (eC (.int 0))))))))) (aD (eC (.bool false))) aW)
 (ao (aA 3 (ar aK (ac (e2 ixA (af 1) (eC (.int 0))) ag)))
 (ao (sIf (tV (e2 eqD (af 3) (eC (.int 0)))) (aD (ar au (ac (af 0) (ac (af 1) ag)))) aW)
 (aD (cG (e2 eqD (eN aS (ac (af 1) ag)) (e2 bp (af 3) (eC (.int 1)))) (eN kz (ac (eLC true (c9 (eSl fU (af 1) (cw (eC (.int 1))) cE)) (gN 0) cY (gC self) [none,some 0,some 2]) ag)))))))
def bn:Nat->List D->Option (D × En)
 | 0=>fun _=>none
 | j+1=>fnF 1 [0,0,0] (aQ (bn j))
def cW {k:Nat} (T:Bl mg)  {self:List D->Option (D × En)} (eQ:Kn P w K mg base k "how_many_parts" ["head"] (spF K [0] 3 aK)) (pW:Kn P w K mg base k "is_simple" ["tongue", "thing"] (spF K [0,0] 3 au)) (iW:Kn P w K mg base k "is_formed" ["tongue", "thing", "deep"] (spF K [0,0,0] 3 self)) (F:Fun K "is_formed" "is_formed" fW f fd):FnOk P w K mg base CX0 (k+1) f fd ["tongue", "thing", "deep"] (spF K [0,0,0] 3 (fnF 1 [0,0,0] (aQ self))):=by
 have nd:=scis_formed.nd;refine F.okQ (N:=iV) (b:=aQ self) (J:=⟨[],[0,0,0,0],3,[]⟩) (ds0:=[0,0,0,0]) scis_formed rfl rfl rfl rfl fun cdv A outer s H E hr=>?_;exact (ah (aF (ds2:=[0,0,0,0]) (qpt (bu (fte rfl hr.units (fvc 2 rfl rfl) ae) (bu (bL (bB (cj (K:=K) (n:="tuple") rfl rfl T.isinstance0 rfl T.tuple0 (by decide +kernel) (by decide) (fv 1 rfl rfl) (by decide) rfl rfl rfl rfl) (fun _=>rfl))) (bu (fte rfl hr.units (fln rfl T.len0 (aa (fv 1 rfl rfl) ad rfl) rfl rfl) ae) (cC (bL (bB (cj (K:=K) (n:="str") rfl rfl T.isinstance0 rfl T.str0 (by decide +kernel) (by decide) (fxi rfl (fv 1 rfl rfl)) (by decide) rfl rfl rfl rfl) (fun _=>rfl)))))))) (frt bv rfl) az) (ah (aM 3 [0,0,0,0] nd (fs0 (fnn eQ hr (aa (fxi rfl (fv 1 rfl rfl)) ad rfl) rfl rfl)) rfl rfl rfl) (ah (aF (ds2:=[0,0,0,0]) (fte rfl hr.units (fv 3 rfl rfl) ae) (frt (fnn pW hr (aa (fvc 0 rfl rfl) (aa (fv 1 rfl rfl) ad rfl) rfl) rfl rfl) rfl) az) (frt (bw (bN (gR (K:=K) rfl hr.units) (fln rfl T.len0 (aa (fv 1 rfl rfl) ad rfl) rfl rfl) (ak bj (fv 3 rfl rfl) ae) (bA _)) (bJ (fcb (qQ (K:=K) rfl rfl) T.all0 (by decide +kernel) (aa (fs0 (cc (cd:=3) (d:=3) (dsi:=[0,0,0]) (lk:=[1,2]) (BlkOkC.of (ns:=["part", "tongue", "deep"]) (js:=[none,some 0,some 2]) (N0:=iV) (sc0:=ap fW) rfl rfl (by decide +kernel)) rfl (bI (K:=K) rfl (ba (eB (K:=K) rfl) (fv 1 rfl rfl) (bq ae) br)) (fun _ _ _ _ _=>(aI (i:=0) (ds':=[0,0,0]) (show (["part", "tongue", "deep"]:List Str).Nodup by decide +kernel) rfl (.inl rfl) rfl (by decide) (by decide) (.inr rfl))) (fun _ _ _ _ _=>bi) (fun _ _ _ _ _=>(fnn iW hr (aa (fvc 1 rfl rfl) (aa (fv 0 rfl rfl) (aa (fs0 (ak bM (fvc 2 rfl rfl) ae)) ad rfl) rfl) rfl) rfl rfl)) rfl rfl (by decide) rfl (fun _=>rfl))) ad rfl) rfl rfl))) rfl))))
abbrev dW:Stmt:=top 19
abbrev fJ:List Str:=["sentence"]
def scsentences_in:FnScope fJ ["sentence"] (ap dW):=⟨rfl,rfl,rfl,by decide +kernel,rfl,by decide +kernel,by decide +kernel⟩
def eS (self:List D->Option (D × En)):ME:=(ar self (ac (af 0) ag))
def bZ (self:List D->Option (D × En)):MS:=(ao (sIf (tV (e2 eqD (ar aK (ac (e2 ixA (af 0) (eC (.int 0))) ag)) (eC (.int 0)))) (aD (eC (.int 1))) aW)
 (aD (e2 bp (eC (.int 1)) (eN mZ (ac (eLC true (c9 (eSl fU (af 0) (cw (eC (.int 1))) cE)) (gN 0) cY (eS self) [none]) ag)))))
def aX:Nat->List D->Option (D × En)
 | 0=>fun _=>none
 | j+1=>fnF 0 [0] (bZ (aX j))
def ca {k:Nat} (T:Bl mg)  {self:List D->Option (D × En)} (eQ:Kn P w K mg base k "how_many_parts" ["head"] (spF K [0] 3 aK)) (fK:Kn P w K mg base k "sentences_in" ["sentence"] (spF K [0] 3 self)) (F:Fun K "sentences_in" "sentences_in" dW f fd):FnOk P w K mg base CX0 (k+1) f fd ["sentence"] (spF K [0] 3 (fnF 0 [0] (bZ self))):=by
 have nd:=scsentences_in.nd;refine F.okQ (N:=fJ) (b:=bZ self) (J:=⟨[],[0],3,[]⟩) (ds0:=[0]) scsentences_in rfl rfl rfl rfl fun cdv A outer s H E hr=>?_;exact (ah (aF (ds2:=[0]) (fte rfl hr.units (fnn eQ hr (aa (fxi rfl (fv 0 rfl rfl)) ad rfl) rfl rfl) ae) (frt ae rfl) az) (frt (ak bj ae (fcb (Eg (K:=K) rfl rfl) T.sum0 (by decide +kernel) (aa (fs0 (cc (cd:=3) (d:=3) (dsi:=[0]) (lk:=[]) (BlkOkC.of (ns:=["part"]) (js:=[none]) (N0:=fJ) (sc0:=ap dW) rfl rfl (by decide +kernel)) rfl (bI (K:=K) rfl (ba (eB (K:=K) rfl) (fv 0 rfl rfl) (bq ae) br)) (fun _ _ _ _ _=>(aI (i:=0) (ds':=[0]) (show (["part"]:List Str).Nodup by decide +kernel) rfl (.inl rfl) rfl (by decide) (by decide) (.inr rfl))) (fun _ _ _ _ _=>bi) (fun _ _ _ _ _=>(fnn fK hr (aa (fv 0 rfl rfl) ad rfl) rfl rfl)) rfl rfl (by decide) rfl (fun _=>rfl))) ad rfl) rfl rfl)) rfl))
abbrev gp:Stmt:=top 16
abbrev jw:List Str:=["tongue", "thing"]
def scis_sentence:FnScope jw ["tongue", "thing"] (ap gp):=⟨rfl,rfl,rfl,by decide +kernel,rfl,by decide +kernel,by decide +kernel⟩
def gE:MS:=(aD (cG (ar (bn 6) (ac (af 0) (ac (af 1) (ac (eC (.int 4)) ag)))) (e2 leI (ar (aX 6) (ac (af 1) ag)) (eC (.int 9)))))
def cJ:List D->Option (D × En):=fnF 0 [0,0] gE
def mH {k:Nat} (T:Bl mg) {mY:Tok} (og:mg "MOST_DEEP"=some (.int 4 mY)) {gb:Tok} (gO:mg "MOST_SENTENCES_IN_ONE"=some (.int 9 gb)) (iW:Kn P w K mg base k "is_formed" ["tongue", "thing", "deep"] (spF K [0,0,0] 3 (bn 6))) (fK:Kn P w K mg base k "sentences_in" ["sentence"] (spF K [0] 3 (aX 6))) (F:Fun K "is_sentence" "is_sentence" gp f fd):FnOk P w K mg base CX0 (k+1) f fd ["tongue", "thing"] (spF K [0,0] 3 cJ):=by
 have nd:=scis_sentence.nd;refine F.okQ (N:=jw) (b:=gE) (J:=⟨[],[0,0],3,[]⟩) (ds0:=[0,0]) scis_sentence rfl rfl rfl rfl fun cdv A outer s H E hr=>?_;exact (frt (bw (fnn iW hr (aa (fv 0 rfl rfl) (aa (fv 1 rfl rfl) (aa (fs0 (b6 rfl og rfl)) ad rfl) rfl) rfl) rfl rfl) (bJ (bN fg (fnn fK hr (aa (fv 1 rfl rfl) ad rfl) rfl rfl) (b6 rfl gO rfl) (bA _)))) rfl)
abbrev ju:Stmt:=top 25
abbrev mE:List Str:=["_law_script", "_law_k", "_law_cell"]
def sc_law_pen:FnScope mE ["_law_script", "_law_k"] (ap ju):=⟨rfl,rfl,rfl,by decide +kernel,rfl,by decide +kernel,by decide +kernel⟩
def cO:MS:=(ao (aA 2 (eC (.int 0)))
 (ao (sIf (tV (e2 gtI (eN aS (ac (af 0) ag)) (eC (.int 0)))) (aA 2 (e2 ixA (af 0) (e2 cF (af 1) (eN aS (ac (af 0) ag))))) aW)
 (ao (sIf (dN (tV (e2 ltI (af 1) (eN aS (ac (af 0) ag)))) (tV (e2 geI (eN kA (ac (af 2) ag)) (e2 lG (eC (.int 10)) (eC (.int 18)))))) (aD (aT (ac (eN kA (ac (af 2) ag)) (ac (eC (.int 0)) (ac (eC (.int 0)) ag))))) aW)
 (aD (aT (ac (eC (.int 0)) (ac (e2 bp (e2 cF (af 2) (eC (.int 999999937))) (e2 df (eC (.int 70001)) (af 1))) (ac (eC (.int 0)) ag))))))))
def F_law_pen:List D->Option (D × En):=fnF 1 [0,0] cO
def pj {k:Nat} (T:Bl mg)   (F:Fun K "_law_pen" "_law_pen" ju f fd):FnOk P w K mg base CX0 (k+1) f fd ["_law_script", "_law_k"] (spF K [0,0] 3 F_law_pen):=by
 have nd:=sc_law_pen.nd;refine F.okQ (N:=mE) (b:=cO) (J:=⟨[],[0,0,0],3,[]⟩) (ds0:=[0,0,0]) sc_law_pen rfl rfl rfl rfl fun cdv A outer s H E hr=>?_;exact (ah (aM 2 [0,0,0] nd (fs0 ae) rfl rfl rfl) (ah (aF (ds2:=[0,0,0]) (bC mS (fln rfl T.len0 (aa (fv 0 rfl rfl) ad rfl) rfl rfl) ae (bA _)) (b7 (aM 2 [0,0,0] nd (dC (iJ (K:=K) rfl) (fv 0 rfl rfl) (ak gm (fv 1 rfl rfl) (fln rfl T.len0 (aa (fv 0 rfl rfl) ad rfl) rfl rfl)) (fun _ _=>rfl)) rfl rfl rfl)) az) (ah (aF (ds2:=[0,0,0]) (qpt (eY (bC zH (fv 1 rfl rfl) (fln rfl T.len0 (aa (fv 0 rfl rfl) ad rfl) rfl rfl) (bA _)) (eA (bC Fv (fcb qR T.abs0 (by decide +kernel) (aa (fv 2 rfl rfl) ad rfl) rfl rfl) (ak qM ae ae) (bA _))))) (frt (aE (d:=3) (c:=3) (aa (fcb qR T.abs0 (by decide +kernel) (aa (fv 2 rfl rfl) ad rfl) rfl rfl) (aa ae (aa ae ad rfl) rfl) rfl) rfl rfl (by decide)) rfl) az) (frt (aE (d:=3) (c:=3) (aa ae (aa (ak bj (ak gm (fv 2 rfl rfl) ae) (ak iw ae (fv 1 rfl rfl))) (aa ae ad rfl) rfl) rfl) rfl rfl (by decide)) rfl))))
abbrev iU:Stmt:=top 26
abbrev ly:List Str:=["_law_pen_here", "_law_many", "_law_digit", "_law_number"]
def sc_law_draw:FnScope ly ["_law_pen_here", "_law_many"] (ap iU):=⟨rfl,rfl,rfl,by decide +kernel,rfl,by decide +kernel,by decide +kernel⟩
def dI:MS:=(ao (sIf (tV (e2 gtI (bY 0 (eC (.int 0))) (eC (.int 0)))) (ao (aA 2 (e2 cF (bY 0 (eC (.int 0))) (af 1)))
 (ao (dy 0 (eC (.int 0)) (e2 fR (bY 0 (eC (.int 0))) (af 1)))
 (aD (af 2)))) aW)
 (ao (dy 0 (eC (.int 2)) (e2 bp (bY 0 (eC (.int 2))) (eC (.int 1))))
 (ao (aA 3 (e2 cF (e2 bp (e2 bp (e2 df (bY 0 (eC (.int 1))) (eC (.int 48271))) (e2 df (bY 0 (eC (.int 2))) (eC (.int 39373)))) (eC (.int 11))) (eC (.int 2147483647))))
 (ao (aA 3 (e2 cF (e2 df (af 3) (e2 bp (e2 cF (af 3) (eC (.int 65521))) (bY 0 (eC (.int 2))))) (eC (.int 2147483629))))
 (aD (e2 cF (e2 fR (af 3) (eC (.int 64))) (af 1)))))))
def F_law_draw:List D->Option (D × En):=fnF 2 [1,0] dI
def n6 {k:Nat} (T:Bl mg)   (F:Fun K "_law_draw" "_law_draw" iU f fd):FnOk P w K mg base CX0 (k+1) f fd ["_law_pen_here", "_law_many"] (spF K [1,0] 0 F_law_draw):=by
 have nd:=sc_law_draw.nd;refine F.okQ (N:=ly) (b:=dI) (J:=⟨[0],[1,0,0,0],0,[]⟩) (ds0:=[1,0,0,0]) sc_law_draw rfl rfl rfl rfl fun cdv A outer s H E hr=>?_;exact (ah (aF (ds2:=[1,0,0,0]) (bC mS (bW (K:=K) (i:=0) rfl rfl (.inl rfl) rfl ae (fun _ _=>rfl) rfl rfl) ae (bA _)) (ah (aM 2 [1,0,0,0] nd (fs0 (ak gm (bW (K:=K) (i:=0) rfl rfl (.inl rfl) rfl ae (fun _ _=>rfl) rfl rfl) (fv 1 rfl rfl))) rfl rfl rfl) (ah (eF (i:=0) (d:=1) (c:=0) rfl (.inl rfl) (fs0 (ak oG (bW (K:=K) (i:=0) rfl rfl (.inl rfl) rfl ae (fun _ _=>rfl) rfl rfl) (fv 1 rfl rfl))) ae rfl (by decide) rfl rfl rfl (fun _=>rfl) rfl rfl rfl) (frt (fv 2 rfl rfl) rfl))) az) (ah (eF (i:=0) (d:=1) (c:=0) rfl (.inl rfl) (fs0 (ak bj (bW (K:=K) (i:=0) rfl rfl (.inl rfl) rfl ae (fun _ _=>rfl) rfl rfl) ae)) ae rfl (by decide) rfl rfl rfl (fun _=>rfl) rfl rfl rfl) (ah (aM 3 [1,0,0,0] nd (fs0 (ak gm (ak bj (ak bj (ak iw (bW (K:=K) (i:=0) rfl rfl (.inl rfl) rfl ae (fun _ _=>rfl) rfl rfl) ae) (ak iw (bW (K:=K) (i:=0) rfl rfl (.inl rfl) rfl ae (fun _ _=>rfl) rfl rfl) ae)) ae) ae)) rfl rfl rfl) (ah (aM 3 [1,0,0,0] nd (fs0 (ak gm (ak iw (fv 3 rfl rfl) (ak bj (ak gm (fv 3 rfl rfl) ae) (bW (K:=K) (i:=0) rfl rfl (.inl rfl) rfl ae (fun _ _=>rfl) rfl rfl))) ae)) rfl rfl rfl) (frt (fs0 (ak gm (ak oG (fv 3 rfl rfl) ae) (fv 1 rfl rfl))) rfl)))))
abbrev eP:Stmt:=top 27
abbrev gA:List Str:=["_law_pen_here", "_law_many", "_law_text_here", "_law_left"]
def sc_law_unlike:FnScope gA ["_law_pen_here", "_law_many"] (ap eP):=⟨rfl,rfl,rfl,by decide +kernel,rfl,by decide +kernel,by decide +kernel⟩
def lX:ME:=(eG 2 (ar F_law_draw (aO 1 (ac (eN aS (ac (af 2) ag)) ag))))
def gH:MS:=(ao (aA 2 (eC (.str "!\"#$&'()*+,-./0123456789:;<=>?@ABCDEFGHIJKLMNOPQRSTUVWXYZ")))
 (ao (aA 3 (eN fO (ac (e2 bp (af 2) (eC (.str "[\\]^_`abcdefghijklmnopqrstuvwxyz{|}~"))) ag)))
 (aD (eLC false (cx (ac (af 1) ag)) (gN 0) cY lX [none,some 0,some 3]))))
def bS:List D->Option (D × En):=fnF 2 [1,0] gH
def mI {k:Nat} (T:Bl mg)  (aP:Kn P w K mg base k "_law_draw" ["_law_pen_here", "_law_many"] (spF K [1,0] 0 F_law_draw)) (F:Fun K "_law_unlike" "_law_unlike" eP f fd):FnOk P w K mg base CX0 (k+1) f fd ["_law_pen_here", "_law_many"] (spF K [1,0] 1 bS):=by
 have nd:=sc_law_unlike.nd;refine F.okQ (N:=gA) (b:=gH) (J:=⟨[0],[1,0,0,0],1,[]⟩) (ds0:=[1,0,0,0]) sc_law_unlike rfl rfl rfl rfl fun cdv A outer s H E hr=>?_;exact (ah (aM 2 [1,0,0,0] nd (fs0 ai) rfl rfl rfl) (ah (cM (i:=3) (d:=1) (ds':=[1,0,0,1]) nd rfl (.inr rfl) (fct (jO (K:=K) rfl rfl) T.list0 (by decide +kernel) (aa (fs0 (ak bj (fv 2 rfl rfl) ai)) ad rfl) rfl rfl) rfl (by decide) (by decide) rfl (.inl rfl)) (frt (iK (cd:=0) (d:=1) (dsi:=[0,1,1]) (lk:=[1,2]) (BlkOkC.of (ns:=["_law_k", "_law_pen_here", "_law_left"]) (js:=[none,some 0,some 3]) (N0:=gA) (sc0:=ap eP) rfl rfl (by decide +kernel)) rfl (b8 rfl T.range0 (aa (fv 1 rfl rfl) ad rfl) rfl) (fun _ _ _ _ _=>(aI (i:=0) (ds':=[0,1,1]) (show (["_law_k", "_law_pen_here", "_law_left"]:List Str).Nodup by decide +kernel) rfl (.inl rfl) rfl (by decide) (by decide) (.inr rfl))) (fun _ _ _ _ _=>bi) (fun _ _ _ _ _=>(k9 (K:=K) (i:=2) (d:=1) rfl rfl (.inr (.inl rfl)) rfl (fns aP hr (cR 1 (aa (fs0 (kq (ds0:=[0,1,0]) (fln rfl T.len0 (aa (fvc 2 rfl rfl) ad rfl) rfl rfl) rfl)) ad rfl) rfl) rfl rfl) (by decide) rfl rfl rfl rfl rfl rfl rfl rfl)) rfl rfl (by decide) rfl (fun _=>rfl)) rfl)))
abbrev gq:Stmt:=top 28
abbrev jx:List Str:=["_law_pen_here", "_law_many", "_law_way", "_law_signs", "_law_kinds", "_law_k", "_law_most", "_law_size_here"]
def sc_law_tongue:FnScope jx ["_law_pen_here"] (ap gq):=⟨rfl,rfl,rfl,by decide +kernel,rfl,by decide +kernel,by decide +kernel⟩
def iz:MS:=(ao (aA 6 (eN kS (ac (eC (.int 6)) (ac (e2 ce (eN aS (ac (af 3) ag)) (e2 ce (e2 ce (af 1) (eC (.int 1))) (af 5))) ag))))
 (ao (aA 7 (e2 ixA (aT (ac (eC (.int 1)) (ac (af 6) (ac (e2 bp (eC (.int 1)) (ar F_law_draw (aO 0 (ac (af 6) ag)))) ag)))) (eN kS (ac (eC (.int 2)) (ac (af 2) ag)))))
 (ao (lF (ku 4 (eM joinD (eC (.str "")) (ac (eSl mU (af 3) cE (cw (af 7))) ag))))
 (aA 3 (eSl mU (af 3) (cw (af 7)) cE)))))
def gI:MS:=(ao (aA 1 (e2 bp (eC (.int 1)) (ar F_law_draw (aO 0 (ac (eC (.int 4)) ag)))))
 (ao (aA 2 (ar F_law_draw (aO 0 (ac (eC (.int 6)) ag))))
 (ao (aA 3 (ar bS (aO 0 (ac (eC (.int 12)) ag))))
 (ao (aA 4 (aT ag))
 (ao (eU (cx (ac (af 1) ag)) (gN 5) iz)
 (aD (eN oT (ac (af 4) ag))))))))
def cq:List D->Option (D × En):=fnF 7 [1] gI
def mJ {k:Nat} (T:Bl mg)  (aP:Kn P w K mg base k "_law_draw" ["_law_pen_here", "_law_many"] (spF K [1,0] 0 F_law_draw)) (gB:Kn P w K mg base k "_law_unlike" ["_law_pen_here", "_law_many"] (spF K [1,0] 1 bS)) (F:Fun K "_law_tongue" "_law_tongue" gq f fd):FnOk P w K mg base CX0 (k+1) f fd ["_law_pen_here"] (spF K [1] 0 cq):=by
 have nd:=sc_law_tongue.nd;refine F.okQ (N:=jx) (b:=gI) (J:=⟨[0],[1,0,0,0,0,0,0,0],0,[]⟩) (ds0:=[1,0,0,0,0,0,0,0]) sc_law_tongue rfl rfl rfl rfl fun cdv A outer s H E hr=>?_;exact (ah (aM 1 [1,0,0,0,0,0,0,0] nd (fs0 (ak bj ae (fns aP hr (fsl 0 (aa (fs0 ae) ad rfl) rfl) rfl rfl))) rfl rfl rfl) (ah (aM 2 [1,0,0,0,0,0,0,0] nd (fns aP hr (fsl 0 (aa (fs0 ae) ad rfl) rfl) rfl rfl) rfl rfl rfl) (ah (aM 3 [1,0,0,0,0,0,0,0] nd (fs0 (fns gB hr (fsl 0 (aa (fs0 ae) ad rfl) rfl) rfl rfl)) rfl rfl rfl) (ah (aM 4 [1,0,0,0,1,0,0,0] nd (eZ (d':=1) (aE (d:=3) (c:=3) ad rfl rfl (by decide)) (by decide)) rfl rfl rfl) (ah (cN (ds1:=[1,0,0,0,1,0,0,0]) rfl (b8 rfl T.range0 (aa (fv 1 rfl rfl) ad rfl) rfl) (aI (i:=5) (ds':=[1,0,0,0,1,0,0,0]) nd rfl (.inl rfl) rfl (by decide) (by decide) (.inl rfl)) (ah (aM 6 [1,0,0,0,1,0,0,0] nd (fs0 (fcb (lM rfl) T.min0 (by decide +kernel) (aa (fs0 ae) (aa (fs0 (ak bM (fln rfl T.len0 (aa (fv 3 rfl rfl) ad rfl) rfl rfl) (ak bM (ak bM (fv 1 rfl rfl) ae) (fv 5 rfl rfl)))) ad rfl) rfl) rfl rfl)) rfl rfl rfl) (ah (aM 7 [1,0,0,0,1,0,0,0] nd (dC (iJ (K:=K) rfl) (aE (d:=1) (c:=0) (aa ae (aa (fv 6 rfl rfl) (aa (ak bj ae (fns aP hr (fsl 0 (aa (fv 6 rfl rfl) ad rfl) rfl) rfl rfl)) ad rfl) rfl) rfl) rfl rfl (by decide)) (fcb (lM rfl) T.min0 (by decide +kernel) (aa (fs0 ae) (aa (fv 2 rfl rfl) ad rfl) rfl) rfl rfl) (fun _ _=>rfl)) rfl rfl rfl) (ah (qL (sI (K:=K) (i:=4) (d:=1) rfl rfl (.inl rfl) rfl (fs0 (cy (K:=K) rfl PySem.F.slot_str_join PySem.F.type_str_join (dA rfl) dB ai (aa (fs0 (ba (oH (K:=K) rfl) (fv 3 rfl rfl) br (bq (fv 7 rfl rfl)))) ad rfl) rfl rfl rfl rfl rfl rfl)) (by decide) rfl rfl rfl rfl rfl rfl rfl rfl) rfl) (b7 (aM 3 [1,0,0,0,1,0,0,0] nd (fs0 (ba (oH (K:=K) rfl) (fv 3 rfl rfl) (bq (fv 7 rfl rfl)) br)) rfl rfl rfl))))) PassesOwn.never (fun _=>rfl)) (frt (fct (sy (K:=K) rfl) T.tuple0 (by decide +kernel) (aa (AO (ds0:=[1,0,0,0,0,0,0,0]) (ko (p:=false) (i:=4) rfl (.inl rfl) rfl rfl rfl) rfl) ad rfl) rfl rfl) rfl))))))
abbrev fj:Stmt:=top 29
abbrev ig:List Str:=["_law_pen_here", "_law_tongue_here", "_law_most", "_law_signs"]
def sc_law_piece:FnScope ig ["_law_pen_here", "_law_tongue_here", "_law_most"] (ap fj):=⟨rfl,rfl,rfl,by decide +kernel,rfl,by decide +kernel,by decide +kernel⟩
def i4:ME:=(e2 ixT (af 2) (ar F_law_draw (aO 1 (ac (eN aS (ac (af 2) ag)) ag))))
def io:MS:=(ao (aA 3 (eM joinD (eC (.str "")) (ac (af 1) ag)))
 (aD (eM joinD (eC (.str "")) (ac (eLC false (cx (ac (e2 bp (eC (.int 1)) (ar F_law_draw (aO 0 (ac (af 2) ag)))) ag)) (gN 0) cY i4 [none,some 0,some 3]) ag))))
def b9:List D->Option (D × En):=fnF 1 [1,0,0] io
def nh {k:Nat} (T:Bl mg)  (aP:Kn P w K mg base k "_law_draw" ["_law_pen_here", "_law_many"] (spF K [1,0] 0 F_law_draw)) (F:Fun K "_law_piece" "_law_piece" fj f fd):FnOk P w K mg base CX0 (k+1) f fd ["_law_pen_here", "_law_tongue_here", "_law_most"] (spF K [1,0,0] 3 b9):=by
 have nd:=sc_law_piece.nd;refine F.okQ (N:=ig) (b:=io) (J:=⟨[0],[1,0,0,0],3,[]⟩) (ds0:=[1,0,0,0]) sc_law_piece rfl rfl rfl rfl fun cdv A outer s H E hr=>?_;exact (ah (cM (i:=3) (d:=0) (ds':=[1,0,0,0]) nd rfl (.inr rfl) (fs0 (cy (K:=K) rfl PySem.F.slot_str_join PySem.F.type_str_join (dA rfl) dB ai (aa (fv 1 rfl rfl) ad rfl) rfl rfl rfl rfl rfl rfl)) rfl (by decide) (by decide) rfl (.inl rfl)) (frt (cy (K:=K) rfl PySem.F.slot_str_join PySem.F.type_str_join (dA rfl) dB ai (aa (fs0 (iK (cd:=3) (d:=3) (dsi:=[0,1,0]) (lk:=[1,2]) (BlkOkC.of (ns:=["_law_k", "_law_pen_here", "_law_signs"]) (js:=[none,some 0,some 3]) (N0:=ig) (sc0:=ap fj) rfl rfl (by decide +kernel)) rfl (b8 rfl T.range0 (aa (fs0 (ak bj ae (fns aP hr (cR 0 (aa (fv 2 rfl rfl) ad rfl) rfl) rfl rfl))) ad rfl) rfl) (fun _ _ _ _ _=>(aI (i:=0) (ds':=[0,1,0]) (show (["_law_k", "_law_pen_here", "_law_signs"]:List Str).Nodup by decide +kernel) rfl (.inl rfl) rfl (by decide) (by decide) (.inr rfl))) (fun _ _ _ _ _=>bi) (fun _ _ _ _ _=>(dC qN (fvc 2 rfl rfl) (fns aP hr (cR 1 (aa (fs0 (fln rfl T.len0 (aa (fvc 2 rfl rfl) ad rfl) rfl rfl)) ad rfl) rfl) rfl rfl) (fun _ _=>rfl))) rfl rfl (by decide) rfl (fun _=>rfl))) ad rfl) rfl rfl rfl rfl rfl rfl) rfl))
abbrev fh:Stmt:=top 30
abbrev ie:List Str:=["_law_pen_here", "_law_tongue_here", "_law_way", "_law_low", "_law_signs", "_law_many"]
def sc_law_plain:FnScope ie ["_law_pen_here", "_law_tongue_here"] (ap fh):=⟨rfl,rfl,rfl,by decide +kernel,rfl,by decide +kernel,by decide +kernel⟩
def mP:ME:=(eG 2 (ar F_law_draw (aO 1 (ac (eN aS (ac (af 2) ag)) ag))))
def im:MS:=(ao (aA 2 (ar F_law_draw (aO 0 (ac (eC (.int 7)) ag))))
 (ao (sIf (tV (e2 eqD (af 2) (eC (.int 0)))) (ao (aA 3 (ar F_law_draw (aO 0 (ac (eC (.int 31)) ag))))
 (aD (av (ac (eC (.str "long")) (ac (af 3) (ac (e2 ixA (aT (ac (eC .none) (ac (e2 bp (af 3) (ar F_law_draw (aO 0 (ac (e2 ce (eC (.int 31)) (af 3)) ag)))) ag))) (ar F_law_draw (aO 0 (ac (eC (.int 2)) ag)))) ag)))))) aW)
 (ao (sIf (tV (e2 eqD (af 2) (eC (.int 1)))) (aD (av (ac (eC (.str "least")) (ac (ar F_law_draw (aO 0 (ac (eN aS (ac (af 1) ag)) ag))) (ac (ar F_law_draw (aO 0 (ac (eC (.int 10)) ag))) ag))))) aW)
 (ao (sIf (tV (e2 eqD (af 2) (eC (.int 2)))) (ao (aA 4 (eN fO (ac (eM joinD (eC (.str "")) (ac (af 1) ag)) ag)))
 (ao (aA 5 (e2 bp (eC (.int 1)) (ar F_law_draw (aO 0 (ac (eN kS (ac (eC (.int 4)) (ac (eN aS (ac (af 4) ag)) ag))) ag)))))
 (aD (av (ac (eC (.str "often")) (ac (eM joinD (eC (.str "")) (ac (eLC false (cx (ac (af 5) ag)) (gN 0) cY mP [none,some 0,some 4]) ag)) (ac (ar F_law_draw (aO 0 (ac (eC (.int 4)) ag))) ag))))))) aW)
 (ao (sIf (tV (e2 eqD (af 2) (eC (.int 3)))) (aD (av (ac (eC (.str "apart")) ag))) aW)
 (aD (av (ac (e2 ixA (aT (ac (eC (.str "without")) (ac (eC (.str "begins")) (ac (eC (.str "ends")) ag)))) (e2 ce (af 2) (eC (.int 4)))) (ac (ar b9 (aO 0 (ac (af 1) (ac (eC (.int 6)) ag)))) ag)))))))))
def bR:List D->Option (D × En):=fnF 4 [1,0] im
def ng {k:Nat} (T:Bl mg)  (aP:Kn P w K mg base k "_law_draw" ["_law_pen_here", "_law_many"] (spF K [1,0] 0 F_law_draw)) (ii:Kn P w K mg base k "_law_piece" ["_law_pen_here", "_law_tongue_here", "_law_most"] (spF K [1,0,0] 3 b9)) (F:Fun K "_law_plain" "_law_plain" fh f fd):FnOk P w K mg base CX0 (k+1) f fd ["_law_pen_here", "_law_tongue_here"] (spF K [1,0] 0 bR):=by
 have nd:=sc_law_plain.nd;refine F.okQ (N:=ie) (b:=im) (J:=⟨[0],[1,0,0,0,0,0],0,[]⟩) (ds0:=[1,0,0,0,0,0]) sc_law_plain rfl rfl rfl rfl fun cdv A outer s H E hr=>?_;exact (ah (aM 2 [1,0,0,0,0,0] nd (fns aP hr (cR 0 (aa (fs0 ae) ad rfl) rfl) rfl rfl) rfl rfl rfl) (ah (aF (ds2:=[1,0,0,0,0,0]) (fte rfl hr.units (fv 2 rfl rfl) ae) (ah (aM 3 [1,0,0,0,0,0] nd (fns aP hr (cR 0 (aa (fs0 ae) ad rfl) rfl) rfl rfl) rfl rfl rfl) (frt (aj (d:=0) (c:=0) (aa ai (aa (fv 3 rfl rfl) (aa (dC (iJ (K:=K) rfl) (aE (d:=3) (c:=3) (aa cS (aa (ak bj (fv 3 rfl rfl) (fns aP hr (cR 0 (aa (fs0 (ak bM ae (fv 3 rfl rfl))) ad rfl) rfl) rfl rfl)) ad rfl) rfl) rfl rfl (by decide)) (fns aP hr (cR 0 (aa (fs0 ae) ad rfl) rfl) rfl rfl) (fun _ _=>rfl)) ad rfl) rfl) rfl) rfl rfl) rfl)) az) (ah (aF (ds2:=[1,0,0,0,0,0]) (fte rfl hr.units (fv 2 rfl rfl) ae) (frt (aj (d:=0) (c:=0) (aa ai (aa (fns aP hr (cR 0 (aa (fs0 (fln rfl T.len0 (aa (fv 1 rfl rfl) ad rfl) rfl rfl)) ad rfl) rfl) rfl rfl) (aa (fns aP hr (cR 0 (aa (fs0 ae) ad rfl) rfl) rfl rfl) ad rfl) rfl) rfl) rfl rfl) rfl) az) (ah (aF (ds2:=[1,0,0,0,0,0]) (fte rfl hr.units (fv 2 rfl rfl) ae) (ah (cM (i:=4) (d:=1) (ds':=[1,0,0,0,1,0]) nd rfl (.inr rfl) (fct (jO (K:=K) rfl rfl) T.list0 (by decide +kernel) (aa (fs0 (cy (K:=K) rfl PySem.F.slot_str_join PySem.F.type_str_join (dA rfl) dB ai (aa (fv 1 rfl rfl) ad rfl) rfl rfl rfl rfl rfl rfl)) ad rfl) rfl rfl) rfl (by decide) (by decide) rfl (.inl rfl)) (ah (aM 5 [1,0,0,0,1,0] nd (fs0 (ak bj ae (fns aP hr (cR 0 (aa (fs0 (kq (ds0:=[1,0,0,0,0,0]) (fcb (lM rfl) T.min0 (by decide +kernel) (aa (fs0 ae) (aa (fs0 (fln rfl T.len0 (aa (fvc 4 rfl rfl) ad rfl) rfl rfl)) ad rfl) rfl) rfl rfl) rfl)) ad rfl) rfl) rfl rfl))) rfl rfl rfl) (frt (aj (d:=0) (c:=0) (aa ai (aa (cy (K:=K) rfl PySem.F.slot_str_join PySem.F.type_str_join (dA rfl) dB ai (aa (fs0 (iK (cd:=0) (d:=1) (dsi:=[0,1,1]) (lk:=[1,2]) (BlkOkC.of (ns:=["_law_k", "_law_pen_here", "_law_signs"]) (js:=[none,some 0,some 4]) (N0:=ie) (sc0:=ap fh) rfl rfl (by decide +kernel)) rfl (b8 rfl T.range0 (aa (fv 5 rfl rfl) ad rfl) rfl) (fun _ _ _ _ _=>(aI (i:=0) (ds':=[0,1,1]) (show (["_law_k", "_law_pen_here", "_law_signs"]:List Str).Nodup by decide +kernel) rfl (.inl rfl) rfl (by decide) (by decide) (.inr rfl))) (fun _ _ _ _ _=>bi) (fun _ _ _ _ _=>(k9 (K:=K) (i:=2) (d:=1) rfl rfl (.inr (.inl rfl)) rfl (fns aP hr (cR 1 (aa (fs0 (kq (ds0:=[0,1,0]) (fln rfl T.len0 (aa (fvc 2 rfl rfl) ad rfl) rfl rfl) rfl)) ad rfl) rfl) rfl rfl) (by decide) rfl rfl rfl rfl rfl rfl rfl rfl)) rfl rfl (by decide) rfl (fun _=>rfl))) ad rfl) rfl rfl rfl rfl rfl rfl) (aa (fns aP hr (cR 0 (aa (fs0 ae) ad rfl) rfl) rfl rfl) ad rfl) rfl) rfl) rfl rfl) rfl))) az) (ah (aF (ds2:=[1,0,0,0,0,0]) (fte rfl hr.units (fv 2 rfl rfl) ae) (frt (fs0 (aj (d:=3) (c:=3) (aa ai ad rfl) rfl rfl)) rfl) az) (frt (aj (d:=0) (c:=0) (aa (dC (iJ (K:=K) rfl) (aE (d:=3) (c:=3) (aa ai (aa ai (aa ai ad rfl) rfl) rfl) rfl rfl (by decide)) (ak bM (fv 2 rfl rfl) ae) (fun _ _=>rfl)) (aa (fns ii hr (cR 0 (aa (fv 1 rfl rfl) (aa (fs0 ae) ad rfl) rfl) rfl) rfl rfl) ad rfl) rfl) rfl rfl) rfl))))))
abbrev gw:Stmt:=top 31
abbrev jz:List Str:=["_law_pen_here", "_law_tongue_here", "_law_deep", "_law_room", "_law_way", "_law_one"]
def sc_law_nested:FnScope jz ["_law_pen_here", "_law_tongue_here", "_law_deep", "_law_room"] (ap gw):=⟨rfl,rfl,rfl,by decide +kernel,rfl,by decide +kernel,by decide +kernel⟩
def dt (self:List D->Option (D × En)):MS:=(ao (dy 3 (eC (.int 0)) (e2 ce (bY 3 (eC (.int 0))) (eC (.int 1))))
 (ao (aA 4 (ar F_law_draw (aO 0 (ac (eC (.int 4)) ag))))
 (ao (sIf (bOr (tV (e2 eqD (af 2) (eC (.int 1)))) (bOr (tV (e2 eqD (af 4) (eC (.int 0)))) (tV (e2 eqD (bY 3 (eC (.int 0))) (eC (.int 0)))))) (aD (ar bR (aO 0 (ac (af 1) ag)))) aW)
 (ao (sIf (bOr (tV (e2 eqD (af 4) (eC (.int 1)))) (tV (e2 eqD (bY 3 (eC (.int 0))) (eC (.int 1))))) (aD (av (ac (eC (.str "not")) (ac (ar self (aO 0 (ac (af 1) (ac (e2 ce (af 2) (eC (.int 1))) (aO 3 ag))))) ag)))) aW)
 (ao (dy 3 (eC (.int 0)) (e2 ce (bY 3 (eC (.int 0))) (eC (.int 1))))
 (ao (aA 5 (ar self (aO 0 (ac (af 1) (ac (e2 ce (af 2) (eC (.int 1))) (aO 3 ag))))))
 (ao (dy 3 (eC (.int 0)) (e2 bp (bY 3 (eC (.int 0))) (eC (.int 1))))
 (aD (av (ac (e2 ixA (aT (ac (eC (.str "both")) (ac (eC (.str "either")) ag))) (e2 ce (af 4) (eC (.int 2)))) (ac (af 5) (ac (ar self (aO 0 (ac (af 1) (ac (e2 ce (af 2) (eC (.int 1))) (aO 3 ag))))) ag))))))))))))
def aY:Nat->List D->Option (D × En)
 | 0=>fun _=>none
 | j+1=>fnF 2 [1,0,0,1] (dt (aY j))
def cv {k:Nat} (T:Bl mg)  {self:List D->Option (D × En)} (aP:Kn P w K mg base k "_law_draw" ["_law_pen_here", "_law_many"] (spF K [1,0] 0 F_law_draw)) (cI:Kn P w K mg base k "_law_nested" ["_law_pen_here", "_law_tongue_here", "_law_deep", "_law_room"] (spF K [1,0,0,1] 0 self)) (fq:Kn P w K mg base k "_law_plain" ["_law_pen_here", "_law_tongue_here"] (spF K [1,0] 0 bR)) (F:Fun K "_law_nested" "_law_nested" gw f fd):FnOk P w K mg base CX0 (k+1) f fd ["_law_pen_here", "_law_tongue_here", "_law_deep", "_law_room"] (spF K [1,0,0,1] 0 (fnF 2 [1,0,0,1] (dt self))):=by
 have nd:=sc_law_nested.nd;refine F.okQ (N:=jz) (b:=dt self) (J:=⟨[0,3],[1,0,0,1,0,0],0,[]⟩) (ds0:=[1,0,0,1,0,0]) sc_law_nested rfl rfl rfl rfl fun cdv A outer s H E hr=>?_;exact (ah (eF (i:=3) (d:=1) (c:=0) rfl (.inl rfl) (fs0 (ak bM (bW (K:=K) (i:=3) rfl rfl (.inl rfl) rfl ae (fun _ _=>rfl) rfl rfl) ae)) ae rfl (by decide) rfl rfl rfl (fun _=>rfl) rfl rfl rfl) (ah (aM 4 [1,0,0,1,0,0] nd (fns aP hr (fsl 0 (aa (fs0 ae) ad rfl) rfl) rfl rfl) rfl rfl rfl) (ah (aF (ds2:=[1,0,0,1,0,0]) (qpt (bu (fte rfl hr.units (fv 2 rfl rfl) ae) (bu (fte rfl hr.units (fv 4 rfl rfl) ae) (cC (fte rfl hr.units (bW (K:=K) (i:=3) rfl rfl (.inl rfl) rfl ae (fun _ _=>rfl) rfl rfl) ae))))) (frt (fns fq hr (fsl 0 (aa (fv 1 rfl rfl) ad rfl) rfl) rfl rfl) rfl) az) (ah (aF (ds2:=[1,0,0,1,0,0]) (qpt (bu (fte rfl hr.units (fv 4 rfl rfl) ae) (cC (fte rfl hr.units (bW (K:=K) (i:=3) rfl rfl (.inl rfl) rfl ae (fun _ _=>rfl) rfl rfl) ae)))) (frt (aj (d:=0) (c:=0) (aa ai (aa (fns cI hr (fsl 0 (aa (fv 1 rfl rfl) (aa (fs0 (ak bM (fv 2 rfl rfl) ae)) (fsl 3 ad rfl) rfl) rfl) rfl) rfl rfl) ad rfl) rfl) rfl rfl) rfl) az) (ah (eF (i:=3) (d:=1) (c:=0) rfl (.inl rfl) (fs0 (ak bM (bW (K:=K) (i:=3) rfl rfl (.inl rfl) rfl ae (fun _ _=>rfl) rfl rfl) ae)) ae rfl (by decide) rfl rfl rfl (fun _=>rfl) rfl rfl rfl) (ah (aM 5 [1,0,0,1,0,0] nd (fns cI hr (fsl 0 (aa (fv 1 rfl rfl) (aa (fs0 (ak bM (fv 2 rfl rfl) ae)) (fsl 3 ad rfl) rfl) rfl) rfl) rfl rfl) rfl rfl rfl) (ah (eF (i:=3) (d:=1) (c:=0) rfl (.inl rfl) (fs0 (ak bj (bW (K:=K) (i:=3) rfl rfl (.inl rfl) rfl ae (fun _ _=>rfl) rfl rfl) ae)) ae rfl (by decide) rfl rfl rfl (fun _=>rfl) rfl rfl rfl) (frt (aj (d:=0) (c:=0) (aa (dC (iJ (K:=K) rfl) (aE (d:=3) (c:=3) (aa ai (aa ai ad rfl) rfl) rfl rfl (by decide)) (ak bM (fv 4 rfl rfl) ae) (fun _ _=>rfl)) (aa (fv 5 rfl rfl) (aa (fns cI hr (fsl 0 (aa (fv 1 rfl rfl) (aa (fs0 (ak bM (fv 2 rfl rfl) ae)) (fsl 3 ad rfl) rfl) rfl) rfl) rfl rfl) ad rfl) rfl) rfl) rfl rfl) rfl))))))))
abbrev ic:Stmt:=top 32
abbrev j7:List Str:=["_law_thing", "_law_low", "_law_high"]
def sc_law_whole:FnScope j7 ["_law_thing", "_law_low", "_law_high"] (ap ic):=⟨rfl,rfl,rfl,by decide +kernel,rfl,by decide +kernel,by decide +kernel⟩
def cD:MS:=(aD (cG (e1 (aC "int") (af 0)) (cG (kr (e1 (aC "bool") (af 0))) (eH leI leI (af 1) (af 0) (af 2)))))
def aZ:List D->Option (D × En):=fnF 0 [0,0,0] cD
def nc {k:Nat} (T:Bl mg)   (F:Fun K "_law_whole" "_law_whole" ic f fd):FnOk P w K mg base CX0 (k+1) f fd ["_law_thing", "_law_low", "_law_high"] (spF K [0,0,0] 3 aZ):=by
 have nd:=sc_law_whole.nd;refine F.okQ (N:=j7) (b:=cD) (J:=⟨[],[0,0,0],3,[]⟩) (ds0:=[0,0,0]) sc_law_whole rfl rfl rfl rfl fun cdv A outer s H E hr=>?_;exact (frt (bw (cj (K:=K) (n:="int") rfl rfl T.isinstance0 rfl T.int0 (by decide +kernel) (by decide) (fv 0 rfl rfl) (by decide) rfl rfl rfl rfl) (bw (nE (cj (K:=K) (n:="bool") rfl rfl T.isinstance0 rfl T.bool0 (by decide +kernel) (by decide) (fv 0 rfl rfl) (by decide) rfl rfl rfl rfl)) (bJ (fQ fg fg (fv 1 rfl rfl) (fv 0 rfl rfl) (fv 2 rfl rfl) (by with_unfolding_all rfl))))) rfl)
abbrev iS:Stmt:=top 33
abbrev lw:List Str:=["_law_tongue_here", "_law_thing", "_law_most", "_law_sign"]
def sc_law_text:FnScope lw ["_law_tongue_here", "_law_thing", "_law_most"] (ap iS):=⟨rfl,rfl,rfl,by decide +kernel,rfl,by decide +kernel,by decide +kernel⟩
def jC:MS:=(sIf (tV (e2 jL (af 3) (eM joinD (eC (.str "")) (ac (af 0) ag)))) (aD (eC (.bool false))) aW)
def cU:MS:=(ao (sIf (bOr (di (tV (e1 (aC "str") (af 1)))) (bOr (tV (e2 ltI (eN aS (ac (af 1) ag)) (eC (.int 1)))) (tV (e2 gtI (eN aS (ac (af 1) ag)) (af 2))))) (aD (eC (.bool false))) aW)
 (ao (eU (c9 (af 1)) (gN 3) jC)
 (aD (eC (.bool true)))))
def bf:List D->Option (D × En):=fnF 1 [0,0,0] cU
def nZ {k:Nat} (T:Bl mg)   (F:Fun K "_law_text" "_law_text" iS f fd):FnOk P w K mg base CX0 (k+1) f fd ["_law_tongue_here", "_law_thing", "_law_most"] (spF K [0,0,0] 3 bf):=by
 have nd:=sc_law_text.nd;refine F.okQ (N:=lw) (b:=cU) (J:=⟨[],[0,0,0,0],3,[]⟩) (ds0:=[0,0,0,0]) sc_law_text rfl rfl rfl rfl fun cdv A outer s H E hr=>?_;exact (ah (aF (ds2:=[0,0,0,0]) (qpt (bu (bL (bB (cj (K:=K) (n:="str") rfl rfl T.isinstance0 rfl T.str0 (by decide +kernel) (by decide) (fv 1 rfl rfl) (by decide) rfl rfl rfl rfl) (fun _=>rfl))) (bu (bC zH (fln rfl T.len0 (aa (fv 1 rfl rfl) ad rfl) rfl rfl) ae (bA _)) (cC (bC mS (fln rfl T.len0 (aa (fv 1 rfl rfl) ad rfl) rfl rfl) (fv 2 rfl rfl) (bA _)))))) (frt bv rfl) az) (ah (cN (ds1:=[0,0,0,0]) rfl (bI (K:=K) rfl (fv 1 rfl rfl)) (aI (i:=3) (ds':=[0,0,0,0]) nd rfl (.inl rfl) rfl (by decide) (by decide) (.inl rfl)) (b7 (aF (ds2:=[0,0,0,0]) (bC mi (fv 3 rfl rfl) (cy (K:=K) rfl PySem.F.slot_str_join PySem.F.type_str_join (dA rfl) dB ai (aa (fv 0 rfl rfl) ad rfl) rfl rfl rfl rfl rfl rfl) (by with_unfolding_all rfl)) (frt bv rfl) az)) PassesOwn.never (fun _=>rfl)) (frt bv rfl)))
abbrev dE:Stmt:=top 34
abbrev fc:List Str:=["_law_tongue_here", "_law_thing", "_law_word"]
def sc_law_is_plain:FnScope fc ["_law_tongue_here", "_law_thing"] (ap dE):=⟨rfl,rfl,rfl,by decide +kernel,rfl,by decide +kernel,by decide +kernel⟩
def gn:MT:=(tV (e2 pK (e2 ixA (e2 ixA (af 1) (eC (.int 1))) (af 0)) (eSl lP (e2 ixA (af 1) (eC (.int 1))) cE (cw (af 0)))))
def gD:ME:=(af 0)
def aq:MS:=(ao (aA 2 (e2 ixA (af 1) (eC (.int 0))))
 (ao (sIf (dN (tV (e2 eqD (af 2) (eC (.str "long")))) (tV (e2 eqD (eN aS (ac (af 1) ag)) (eC (.int 3))))) (ao (sIf (di (tV (ar aZ (ac (e2 ixA (af 1) (eC (.int 1))) (ac (eC (.int 0)) (ac (eC (.int 30)) ag)))))) (aD (eC (.bool false))) aW)
 (aD (eOr (e2 isN (e2 ixA (af 1) (eC (.int 2))) (eC .none)) (ar aZ (ac (e2 ixA (af 1) (eC (.int 2))) (ac (e2 ixA (af 1) (eC (.int 1))) (ac (eC (.int 30)) ag))))))) aW)
 (ao (sIf (dN (tV (e2 eqD (af 2) (eC (.str "least")))) (tV (e2 eqD (eN aS (ac (af 1) ag)) (eC (.int 3))))) (aD (cG (ar aZ (ac (e2 ixA (af 1) (eC (.int 1))) (ac (eC (.int 0)) (ac (e2 ce (eN aS (ac (af 0) ag)) (eC (.int 1))) ag)))) (ar aZ (ac (e2 ixA (af 1) (eC (.int 2))) (ac (eC (.int 0)) (ac (eC (.int 9)) ag)))))) aW)
 (ao (sIf (dN (tV (e2 eqD (af 2) (eC (.str "often")))) (tV (e2 eqD (eN aS (ac (af 1) ag)) (eC (.int 3))))) (ao (sIf (bOr (di (tV (ar bf (ac (af 0) (ac (e2 ixA (af 1) (eC (.int 1))) (ac (eC (.int 4)) ag)))))) (di (tV (ar aZ (ac (e2 ixA (af 1) (eC (.int 2))) (ac (eC (.int 0)) (ac (eC (.int 3)) ag))))))) (aD (eC (.bool false))) aW)
 (aD (e2 eqD (eLC true (cx (ac (eN aS (ac (e2 ixA (af 1) (eC (.int 1))) ag)) ag)) (gN 0) gn gD [none,some 1]) (aT ag)))) aW)
 (ao (sIf (tV (e2 eqD (af 2) (eC (.str "apart")))) (aD (e2 eqD (eN aS (ac (af 1) ag)) (eC (.int 1)))) aW)
 (aD (cG (e2 inL (af 2) (av (ac (eC (.str "without")) (ac (eC (.str "begins")) (ac (eC (.str "ends")) ag))))) (cG (e2 eqD (eN aS (ac (af 1) ag)) (eC (.int 2))) (ar bf (ac (af 0) (ac (e2 ixA (af 1) (eC (.int 1))) (ac (eC (.int 6)) ag))))))))))))
def am:List D->Option (D × En):=fnF 1 [0,0] aq
def kP {k:Nat} (T:Bl mg)  (lA:Kn P w K mg base k "_law_text" ["_law_tongue_here", "_law_thing", "_law_most"] (spF K [0,0,0] 3 bf)) (dQ:Kn P w K mg base k "_law_whole" ["_law_thing", "_law_low", "_law_high"] (spF K [0,0,0] 3 aZ)) (F:Fun K "_law_is_plain" "_law_is_plain" dE f fd):FnOk P w K mg base CX0 (k+1) f fd ["_law_tongue_here", "_law_thing"] (spF K [0,0] 3 am):=by
 have nd:=sc_law_is_plain.nd;refine F.okQ (N:=fc) (b:=aq) (J:=⟨[],[0,0,0],3,[]⟩) (ds0:=[0,0,0]) sc_law_is_plain rfl rfl rfl rfl fun cdv A outer s H E hr=>?_;exact (ah (aM 2 [0,0,0] nd (fxi rfl (fvc 1 rfl rfl)) rfl rfl rfl) (ah (aF (ds2:=[0,0,0]) (qpt (eY (fte rfl hr.units (fv 2 rfl rfl) ai) (eA (fte rfl hr.units (fln rfl T.len0 (aa (fvc 1 rfl rfl) ad rfl) rfl rfl) ae)))) (ah (aF (ds2:=[0,0,0]) (bL (bB (fnn dQ hr (aa (fxi rfl (fvc 1 rfl rfl)) (aa (fs0 ae) (aa (fs0 ae) ad rfl) rfl) rfl) rfl rfl) (fun _=>rfl))) (frt bv rfl) az) (frt (oI (bN qO (fxi rfl (fvc 1 rfl rfl)) cS (bA _)) (bJ (fnn dQ hr (aa (fxi rfl (fvc 1 rfl rfl)) (aa (fxi rfl (fvc 1 rfl rfl)) (aa (fs0 ae) ad rfl) rfl) rfl) rfl rfl))) rfl)) az) (ah (aF (ds2:=[0,0,0]) (qpt (eY (fte rfl hr.units (fv 2 rfl rfl) ai) (eA (fte rfl hr.units (fln rfl T.len0 (aa (fvc 1 rfl rfl) ad rfl) rfl rfl) ae)))) (frt (bw (fnn dQ hr (aa (fxi rfl (fvc 1 rfl rfl)) (aa (fs0 ae) (aa (fs0 (ak bM (fln rfl T.len0 (aa (fv 0 rfl rfl) ad rfl) rfl rfl) ae)) ad rfl) rfl) rfl) rfl rfl) (bJ (fnn dQ hr (aa (fxi rfl (fvc 1 rfl rfl)) (aa (fs0 ae) (aa (fs0 ae) ad rfl) rfl) rfl) rfl rfl))) rfl) az) (ah (aF (ds2:=[0,0,0]) (qpt (eY (fte rfl hr.units (fv 2 rfl rfl) ai) (eA (fte rfl hr.units (fln rfl T.len0 (aa (fvc 1 rfl rfl) ad rfl) rfl rfl) ae)))) (ah (aF (ds2:=[0,0,0]) (qpt (bu (bL (bB (fnn lA hr (aa (fv 0 rfl rfl) (aa (fxi rfl (fvc 1 rfl rfl)) (aa (fs0 ae) ad rfl) rfl) rfl) rfl rfl) (fun _=>rfl))) (cC (bL (bB (fnn dQ hr (aa (fxi rfl (fvc 1 rfl rfl)) (aa (fs0 ae) (aa (fs0 ae) ad rfl) rfl) rfl) rfl rfl) (fun _=>rfl)))))) (frt bv rfl) az) (frt (bN (gR (K:=K) rfl hr.units) (cc (cd:=0) (d:=1) (dsi:=[0,0]) (lk:=[1]) (BlkOkC.of (ns:=["_law_k", "_law_thing"]) (js:=[none,some 1]) (N0:=fc) (sc0:=ap dE) rfl rfl (by decide +kernel)) rfl (b8 rfl T.range0 (aa (fs0 (fln rfl T.len0 (aa (fxi rfl (fvc 1 rfl rfl)) ad rfl) rfl rfl)) ad rfl) rfl) (fun _ _ _ _ _=>(aI (i:=0) (ds':=[0,0]) (show (["_law_k", "_law_thing"]:List Str).Nodup by decide +kernel) rfl (.inl rfl) rfl (by decide) (by decide) (.inr rfl))) (fun _ _ _ _ _=>(mh (bC qP (dC (iJ (K:=K) rfl) (fxi rfl (fvc 1 rfl rfl)) (fv 0 rfl rfl) (fun _ _=>rfl)) (ba k8 (fxi rfl (fvc 1 rfl rfl)) br (bq (fv 0 rfl rfl))) (by with_unfolding_all rfl)))) (fun _ _ _ _ _=>(fv 0 rfl rfl)) rfl rfl (by decide) rfl (fun _=>rfl)) (aE (d:=3) (c:=3) ad rfl rfl (by decide)) (bA _)) rfl)) az) (ah (aF (ds2:=[0,0,0]) (fte rfl hr.units (fv 2 rfl rfl) ai) (frt (bN (gR (K:=K) rfl hr.units) (fln rfl T.len0 (aa (fvc 1 rfl rfl) ad rfl) rfl rfl) ae (bA _)) rfl) az) (frt (bw (bN (zI (K:=K) rfl hr.units) (fv 2 rfl rfl) (aj (d:=3) (c:=3) (aa ai (aa ai (aa ai ad rfl) rfl) rfl) rfl rfl) (by with_unfolding_all rfl)) (bw (bN (gR (K:=K) rfl hr.units) (fln rfl T.len0 (aa (fvc 1 rfl rfl) ad rfl) rfl rfl) ae (bA _)) (bJ (fnn lA hr (aa (fv 0 rfl rfl) (aa (fxi rfl (fvc 1 rfl rfl)) (aa (fs0 ae) ad rfl) rfl) rfl) rfl rfl)))) rfl))))))
abbrev iT:Stmt:=top 35
abbrev lx:List Str:=["_law_tongue_here", "_law_thing", "_law_deep"]
def sc_law_size:FnScope lx ["_law_tongue_here", "_law_thing", "_law_deep"] (ap iT):=⟨rfl,rfl,rfl,by decide +kernel,rfl,by decide +kernel,by decide +kernel⟩
def aV (self:List D->Option (D × En)):MS:=(ao (sIf (bOr (tV (e2 eqD (af 2) (eC (.int 0)))) (bOr (di (tV (e1 (aC "tuple") (af 1)))) (bOr (tV (e2 eqD (eN aS (ac (af 1) ag)) (eC (.int 0)))) (di (tV (e1 (aC "str") (e2 ixA (af 1) (eC (.int 0))))))))) (aD (eC (.int 1000))) aW)
 (ao (sIf (dN (tV (e2 eqD (e2 ixA (af 1) (eC (.int 0))) (eC (.str "not")))) (tV (e2 eqD (eN aS (ac (af 1) ag)) (eC (.int 2))))) (aD (e2 bp (eC (.int 1)) (ar self (ac (af 0) (ac (e2 ixA (af 1) (eC (.int 1))) (ac (e2 ce (af 2) (eC (.int 1))) ag)))))) aW)
 (ao (sIf (dN (tV (e2 inL (e2 ixA (af 1) (eC (.int 0))) (av (ac (eC (.str "both")) (ac (eC (.str "either")) ag))))) (tV (e2 eqD (eN aS (ac (af 1) ag)) (eC (.int 3))))) (aD (e2 bp (e2 bp (eC (.int 1)) (ar self (ac (af 0) (ac (e2 ixA (af 1) (eC (.int 1))) (ac (e2 ce (af 2) (eC (.int 1))) ag))))) (ar self (ac (af 0) (ac (e2 ixA (af 1) (eC (.int 2))) (ac (e2 ce (af 2) (eC (.int 1))) ag)))))) aW)
 (ao (sIf (tV (ar am (ac (af 0) (ac (af 1) ag)))) (aD (eC (.int 1))) aW)
 (aD (eC (.int 1000)))))))
def bo:Nat->List D->Option (D × En)
 | 0=>fun _=>none
 | j+1=>fnF 0 [0,0,0] (aV (bo j))
def cZ {k:Nat} (T:Bl mg)  {self:List D->Option (D × En)} (lW:Kn P w K mg base k "_law_is_plain" ["_law_tongue_here", "_law_thing"] (spF K [0,0] 3 am)) (eR:Kn P w K mg base k "_law_size" ["_law_tongue_here", "_law_thing", "_law_deep"] (spF K [0,0,0] 3 self)) (F:Fun K "_law_size" "_law_size" iT f fd):FnOk P w K mg base CX0 (k+1) f fd ["_law_tongue_here", "_law_thing", "_law_deep"] (spF K [0,0,0] 3 (fnF 0 [0,0,0] (aV self))):=by
 have nd:=sc_law_size.nd;refine F.okQ (N:=lx) (b:=aV self) (J:=⟨[],[0,0,0],3,[]⟩) (ds0:=[0,0,0]) sc_law_size rfl rfl rfl rfl fun cdv A outer s H E hr=>?_;exact (ah (aF (ds2:=[0,0,0]) (qpt (bu (fte rfl hr.units (fv 2 rfl rfl) ae) (bu (bL (bB (cj (K:=K) (n:="tuple") rfl rfl T.isinstance0 rfl T.tuple0 (by decide +kernel) (by decide) (fv 1 rfl rfl) (by decide) rfl rfl rfl rfl) (fun _=>rfl))) (bu (fte rfl hr.units (fln rfl T.len0 (aa (fv 1 rfl rfl) ad rfl) rfl rfl) ae) (cC (bL (bB (cj (K:=K) (n:="str") rfl rfl T.isinstance0 rfl T.str0 (by decide +kernel) (by decide) (fxi rfl (fv 1 rfl rfl)) (by decide) rfl rfl rfl rfl) (fun _=>rfl)))))))) (frt ae rfl) az) (ah (aF (ds2:=[0,0,0]) (qpt (eY (fte rfl hr.units (fxi rfl (fv 1 rfl rfl)) ai) (eA (fte rfl hr.units (fln rfl T.len0 (aa (fv 1 rfl rfl) ad rfl) rfl rfl) ae)))) (frt (ak bj ae (fnn eR hr (aa (fv 0 rfl rfl) (aa (fxi rfl (fv 1 rfl rfl)) (aa (fs0 (ak bM (fv 2 rfl rfl) ae)) ad rfl) rfl) rfl) rfl rfl)) rfl) az) (ah (aF (ds2:=[0,0,0]) (qpt (eY (bC (zI (K:=K) rfl hr.units) (fxi rfl (fv 1 rfl rfl)) (aj (d:=3) (c:=3) (aa ai (aa ai ad rfl) rfl) rfl rfl) (by with_unfolding_all rfl)) (eA (fte rfl hr.units (fln rfl T.len0 (aa (fv 1 rfl rfl) ad rfl) rfl rfl) ae)))) (frt (ak bj (ak bj ae (fnn eR hr (aa (fv 0 rfl rfl) (aa (fxi rfl (fv 1 rfl rfl)) (aa (fs0 (ak bM (fv 2 rfl rfl) ae)) ad rfl) rfl) rfl) rfl rfl)) (fnn eR hr (aa (fv 0 rfl rfl) (aa (fxi rfl (fv 1 rfl rfl)) (aa (fs0 (ak bM (fv 2 rfl rfl) ae)) ad rfl) rfl) rfl) rfl rfl)) rfl) az) (ah (aF (ds2:=[0,0,0]) (bB (fnn lW hr (aa (fv 0 rfl rfl) (aa (fv 1 rfl rfl) ad rfl) rfl) rfl rfl) (fun _=>rfl)) (frt ae rfl) az) (frt ae rfl)))))
abbrev cT:Stmt:=top 36
abbrev dF:List Str:=["_law_pen_here", "_law_tongue_here", "_law_other", "_law_sentence", "_law_words", "_law_some", "_law_spare", "_law_text_here", "_law_odd", "_law_at"]
def sc_law_bent:FnScope dF ["_law_pen_here", "_law_tongue_here", "_law_other", "_law_sentence"] (ap cT):=⟨rfl,rfl,rfl,by decide +kernel,rfl,by decide +kernel,by decide +kernel⟩
def dk:ME:=(e2 jp (av (ac (af 0) ag)) (eSl fU (af 1) (cw (eC (.int 1))) cE))
def jq:MT:=(tV (e2 jL (af 0) (eM joinD (eC (.str "")) (ac (af 1) ag))))
def jG:ME:=(af 0)
def jF:ME:=(e2 jp (e2 jp (eSl fU (af 1) cE (cw (af 2))) (av (ac (af 0) ag))) (eSl fU (af 1) (cw (e2 bp (af 2) (eC (.int 1)))) cE))
def jD:MS:=(aA 5 (e2 bF (af 5) (eLC true (c9 (e2 bF (af 8) (aT (ac (e2 ixA (af 2) (eC (.int 0))) ag)))) (gN 0) cY jF [none,some 3,some 9])))
def iZ:MS:=(ao (aA 4 (aT (ac (eC (.str "long")) (ac (eC (.str "least")) (ac (eC (.str "often")) (ac (eC (.str "apart")) (ac (eC (.str "without")) (ac (eC (.str "begins")) (ac (eC (.str "ends")) (ac (eC (.str "not")) (ac (eC (.str "both")) (ac (eC (.str "either")) (ac (eC (.str "Long")) (ac (eC (.str "")) ag))))))))))))))
 (ao (aA 5 (e2 bF (eLC true (c9 (af 4)) (gN 0) cY dk [none,some 3]) (eLC true (c9 (av (ac (eC .none) (ac (eC (.int 0)) (ac (eC (.bool true)) (ac (aT (ac (eC (.str "apart")) ag)) ag)))))) (gN 0) cY dk [none,some 3])))
 (ao (aA 5 (e2 bF (af 5) (aT (ac (eSl fU (af 3) cE (cw (e1 kj (eC (.int 1))))) (ac (e2 jp (af 3) (av (ac (eC (.int 0)) ag))) (ac (e2 jp (af 3) (av (ac (af 3) ag))) (ac (eN fO (ac (af 3) ag)) (ac (av (ac (af 3) ag)) (ac (eSl fU (af 3) (cw (eC (.int 1))) cE) ag)))))))))
 (ao (aA 6 (e2 ixA (eLC true (c9 (ar bS (aO 0 (ac (eC (.int 13)) ag)))) (gN 0) jq jG [none,some 1]) (eC (.int 0))))
 (ao (aA 7 (ar b9 (aO 0 (ac (af 1) (ac (eC (.int 3)) ag)))))
 (ao (aA 8 (aT (ac (eC .none) (ac (eC (.bool true)) (ac (eC (.bool false)) (ac (eC (.int 0)) (ac (eC (.int 1)) (ac (eC (.int 3)) (ac (eC (.int 4)) (ac (eC (.int 9)) (ac (eC (.int 10)) (ac (eC (.int 30)) (ac (eC (.int 31)) (ac (e1 kj (eC (.int 1))) (ac (e2 lG (eC (.int 10)) (eC (.int 30))) (ac (eN aS (ac (af 1) ag)) (ac (eC (.str "")) (ac (af 7) (ac (e2 bp (af 7) (af 6)) (ac (eC (.str " ")) ag))))))))))))))))))))
 (ao (aA 8 (e2 bF (af 8) (aT (ac (eSl lP (e2 je (af 7) (eC (.int 7))) cE (cw (eC (.int 6)))) (ac (eSl lP (e2 je (af 7) (eC (.int 7))) cE (cw (eC (.int 7)))) (ac (e2 bp (af 7) (eSl lP (af 7) cE (cw (eC (.int 1))))) (ac (eN fO (ac (af 7) ag)) (ac (av (ac (af 7) ag)) (ac (aT ag) (ac jP (ac (av ag) (ac (av (ac (eC (.str "apart")) ag)) ag))))))))))))
 (ao (aA 8 (e2 bF (af 8) (aT (ac (af 6) (ac (aT (ac (eC (.str "apart")) ag)) ag)))))
 (ao (eU (jk (ac (eC (.int 1)) (ac (eN aS (ac (af 3) ag)) ag))) (gN 9) jD)
 (aD (af 5)))))))))))
def dH:List D->Option (D × En):=fnF 6 [1,0,0,0] iZ
def n8 {k:Nat} (T:Bl mg)  (ii:Kn P w K mg base k "_law_piece" ["_law_pen_here", "_law_tongue_here", "_law_most"] (spF K [1,0,0] 3 b9)) (gB:Kn P w K mg base k "_law_unlike" ["_law_pen_here", "_law_many"] (spF K [1,0] 1 bS)) (F:Fun K "_law_bent" "_law_bent" cT f fd):FnOk P w K mg base CX0 (k+1) f fd ["_law_pen_here", "_law_tongue_here", "_law_other", "_law_sentence"] (spF K [1,0,0,0] 0 dH):=by
 have nd:=sc_law_bent.nd;refine F.okQ (N:=dF) (b:=iZ) (J:=⟨[0],[1,0,0,0,0,0,0,0,0,0],0,[]⟩) (ds0:=[1,0,0,0,0,0,0,0,0,0]) sc_law_bent rfl rfl rfl rfl fun cdv A outer s H E hr=>?_;exact (ah (aM 4 [1,0,0,0,0,0,0,0,0,0] nd (fs0 (aE (d:=3) (c:=3) (aa ai (aa ai (aa ai (aa ai (aa ai (aa ai (aa ai (aa ai (aa ai (aa ai (aa ai (aa ai ad rfl) rfl) rfl) rfl) rfl) rfl) rfl) rfl) rfl) rfl) rfl) rfl) rfl rfl (by decide))) rfl rfl rfl) (ah (aM 5 [1,0,0,0,0,0,0,0,0,0] nd (fs0 (ak (aR (K:=K) rfl) (cc (cd:=0) (d:=1) (dsi:=[0,0]) (lk:=[1]) (BlkOkC.of (ns:=["_law_word", "_law_sentence"]) (js:=[none,some 3]) (N0:=dF) (sc0:=ap cT) rfl rfl (by decide +kernel)) rfl (bI (K:=K) rfl (fv 4 rfl rfl)) (fun _ _ _ _ _=>(aI (i:=0) (ds':=[0,0]) (show (["_law_word", "_law_sentence"]:List Str).Nodup by decide +kernel) rfl (.inl rfl) rfl (by decide) (by decide) (.inr rfl))) (fun _ _ _ _ _=>bi) (fun _ _ _ _ _=>(ak (fZ (K:=K) rfl) (aj (d:=0) (c:=0) (aa (fv 0 rfl rfl) ad rfl) rfl rfl) (ba (eB (K:=K) rfl) (fvc 1 rfl rfl) (bq ae) br))) rfl rfl (by decide) rfl (fun _=>rfl)) (cc (cd:=0) (d:=1) (dsi:=[0,0]) (lk:=[1]) (BlkOkC.of (ns:=["_law_one", "_law_sentence"]) (js:=[none,some 3]) (N0:=dF) (sc0:=ap cT) rfl rfl (by decide +kernel)) rfl (bI (K:=K) rfl (fs0 (aj (d:=3) (c:=3) (aa cS (aa ae (aa bv (aa (aE (d:=3) (c:=3) (aa ai ad rfl) rfl rfl (by decide)) ad rfl) rfl) rfl) rfl) rfl rfl))) (fun _ _ _ _ _=>(aI (i:=0) (ds':=[0,0]) (show (["_law_one", "_law_sentence"]:List Str).Nodup by decide +kernel) rfl (.inl rfl) rfl (by decide) (by decide) (.inr rfl))) (fun _ _ _ _ _=>bi) (fun _ _ _ _ _=>(ak (fZ (K:=K) rfl) (aj (d:=0) (c:=0) (aa (fv 0 rfl rfl) ad rfl) rfl rfl) (ba (eB (K:=K) rfl) (fvc 1 rfl rfl) (bq ae) br))) rfl rfl (by decide) rfl (fun _=>rfl)))) rfl rfl rfl) (ah (aM 5 [1,0,0,0,0,0,0,0,0,0] nd (fs0 (ak (aR (K:=K) rfl) (fv 5 rfl rfl) (aE (d:=1) (c:=0) (aa (ba (eB (K:=K) rfl) (fvc 3 rfl rfl) br (bq (ix jm ae))) (aa (ak (fZ (K:=K) rfl) (fvc 3 rfl rfl) (aj (d:=3) (c:=3) (aa ae ad rfl) rfl rfl)) (aa (ak (fZ (K:=K) rfl) (fvc 3 rfl rfl) (aj (d:=0) (c:=0) (aa (fvc 3 rfl rfl) ad rfl) rfl rfl)) (aa (fct (jO (K:=K) rfl rfl) T.list0 (by decide +kernel) (aa (fvc 3 rfl rfl) ad rfl) rfl rfl) (aa (aj (d:=0) (c:=0) (aa (fvc 3 rfl rfl) ad rfl) rfl rfl) (aa (ba (eB (K:=K) rfl) (fvc 3 rfl rfl) (bq ae) br) ad rfl) rfl) rfl) rfl) rfl) rfl) rfl rfl (by decide)))) rfl rfl rfl) (ah (aM 6 [1,0,0,0,0,0,0,0,0,0] nd (fxi rfl (cc (cd:=0) (d:=1) (dsi:=[0,0]) (lk:=[1]) (BlkOkC.of (ns:=["_law_sign", "_law_tongue_here"]) (js:=[none,some 1]) (N0:=dF) (sc0:=ap cT) rfl rfl (by decide +kernel)) rfl (bI (K:=K) rfl (fs0 (fns gB hr (fsl 0 (aa (fs0 ae) ad rfl) rfl) rfl rfl))) (fun _ _ _ _ _=>(aI (i:=0) (ds':=[0,0]) (show (["_law_sign", "_law_tongue_here"]:List Str).Nodup by decide +kernel) rfl (.inl rfl) rfl (by decide) (by decide) (.inr rfl))) (fun _ _ _ _ _=>(mh (bC mi (fv 0 rfl rfl) (cy (K:=K) rfl PySem.F.slot_str_join PySem.F.type_str_join (dA rfl) dB ai (aa (fvc 1 rfl rfl) ad rfl) rfl rfl rfl rfl rfl rfl) (by with_unfolding_all rfl)))) (fun _ _ _ _ _=>(fv 0 rfl rfl)) rfl rfl (by decide) rfl (fun _=>rfl))) rfl rfl rfl) (ah (aM 7 [1,0,0,0,0,0,0,0,0,0] nd (fs0 (fns ii hr (fsl 0 (aa (fvc 1 rfl rfl) (aa (fs0 ae) ad rfl) rfl) rfl) rfl rfl)) rfl rfl rfl) (ah (aM 8 [1,0,0,0,0,0,0,0,0,0] nd (fs0 (aE (d:=1) (c:=0) (aa cS (aa bv (aa bv (aa ae (aa ae (aa ae (aa ae (aa ae (aa ae (aa ae (aa ae (aa (ix jm ae) (aa (ak qM ae ae) (aa (fln rfl T.len0 (aa (fvc 1 rfl rfl) ad rfl) rfl rfl) (aa ai (aa (fv 7 rfl rfl) (aa (ak bj (fv 7 rfl rfl) (fv 6 rfl rfl)) (aa ai ad rfl) rfl) rfl) rfl) rfl) rfl) rfl) rfl) rfl) rfl) rfl) rfl) rfl) rfl) rfl) rfl) rfl) rfl) rfl rfl (by decide))) rfl rfl rfl) (ah (aM 8 [1,0,0,0,0,0,0,0,0,0] nd (fs0 (ak (aR (K:=K) rfl) (fv 8 rfl rfl) (aE (d:=1) (c:=0) (aa (ba k8 (ak fY (fv 7 rfl rfl) ae) br (bq ae)) (aa (ba k8 (ak fY (fv 7 rfl rfl) ae) br (bq ae)) (aa (ak bj (fv 7 rfl rfl) (ba k8 (fv 7 rfl rfl) br (bq ae))) (aa (fct (jO (K:=K) rfl rfl) T.list0 (by decide +kernel) (aa (fv 7 rfl rfl) ad rfl) rfl rfl) (aa (aj (d:=0) (c:=0) (aa (fv 7 rfl rfl) ad rfl) rfl rfl) (aa (aE (d:=3) (c:=3) ad rfl rfl (by decide)) (aa mj (aa (aj (d:=3) (c:=3) ad rfl rfl) (aa (aj (d:=3) (c:=3) (aa ai ad rfl) rfl rfl) ad rfl) rfl) rfl) rfl) rfl) rfl) rfl) rfl) rfl) rfl rfl (by decide)))) rfl rfl rfl) (ah (aM 8 [1,0,0,0,0,0,0,0,0,0] nd (fs0 (ak (aR (K:=K) rfl) (fv 8 rfl rfl) (aE (d:=1) (c:=0) (aa (fv 6 rfl rfl) (aa (aE (d:=3) (c:=3) (aa ai ad rfl) rfl rfl (by decide)) ad rfl) rfl) rfl rfl (by decide)))) rfl rfl rfl) (ah (cN (ds1:=[1,0,0,0,0,0,0,0,0,0]) rfl (qS rfl T.range0 (aa (fs0 ae) (aa (fs0 (fln rfl T.len0 (aa (fvc 3 rfl rfl) ad rfl) rfl rfl)) ad rfl) rfl) rfl rfl) (aI (i:=9) (ds':=[1,0,0,0,0,0,0,0,0,0]) nd rfl (.inr rfl) rfl (by decide) (by decide) (.inl rfl)) (b7 (aM 5 [1,0,0,0,0,0,0,0,0,0] nd (fs0 (ak (aR (K:=K) rfl) (fv 5 rfl rfl) (cc (cd:=0) (d:=1) (dsi:=[0,0,0]) (lk:=[1,2]) (BlkOkC.of (ns:=["_law_one", "_law_sentence", "_law_at"]) (js:=[none,some 3,some 9]) (N0:=dF) (sc0:=ap cT) rfl rfl (by decide +kernel)) rfl (bI (K:=K) rfl (fs0 (ak (aR (K:=K) rfl) (fv 8 rfl rfl) (aE (d:=1) (c:=0) (aa (fxi rfl (fv 2 rfl rfl)) ad rfl) rfl rfl (by decide))))) (fun _ _ _ _ _=>(aI (i:=0) (ds':=[0,0,0]) (show (["_law_one", "_law_sentence", "_law_at"]:List Str).Nodup by decide +kernel) rfl (.inl rfl) rfl (by decide) (by decide) (.inr rfl))) (fun _ _ _ _ _=>bi) (fun _ _ _ _ _=>(ak (fZ (K:=K) rfl) (ak (fZ (K:=K) rfl) (ba (eB (K:=K) rfl) (fvc 1 rfl rfl) br (bq (fvc 2 rfl rfl))) (aj (d:=0) (c:=0) (aa (fv 0 rfl rfl) ad rfl) rfl rfl)) (ba (eB (K:=K) rfl) (fvc 1 rfl rfl) (bq (ak bj (fvc 2 rfl rfl) ae)) br))) rfl rfl (by decide) rfl (fun _=>rfl)))) rfl rfl rfl)) PassesOwn.never (fun _=>rfl)) (frt (fv 5 rfl rfl) rfl))))))))))
abbrev gu:Stmt:=top 37
abbrev jy:List Str:=["_law_one", "_law_two", "_law_five", "_law_some", "_law_deep", "_law_k"]
def sc_law_shapes:FnScope jy ["_law_one"] (ap gu):=⟨rfl,rfl,rfl,by decide +kernel,rfl,by decide +kernel,by decide +kernel⟩
def iA:MS:=(aA 4 (av (ac (eC (.str "not")) (ac (af 4) ag))))
def gJ:MS:=(ao (aA 1 (av (ac (eC (.str "both")) (ac (af 0) (ac (af 0) ag)))))
 (ao (aA 2 (av (ac (eC (.str "either")) (ac (af 1) (ac (af 0) ag)))))
 (ao (aA 3 (aT (ac (av (ac (eC (.str "not")) (ac (av (ac (eC (.str "not")) (ac (av (ac (eC (.str "not")) (ac (af 0) ag))) ag))) ag))) (ac (av (ac (eC (.str "not")) (ac (av (ac (eC (.str "not")) (ac (av (ac (eC (.str "not")) (ac (av (ac (eC (.str "not")) (ac (af 0) ag))) ag))) ag))) ag))) (ac (av (ac (eC (.str "both")) (ac (af 2) (ac (af 1) ag)))) ag)))))
 (ao (aA 3 (e2 bF (af 3) (aT (ac (av (ac (eC (.str "both")) (ac (af 2) (ac (av (ac (eC (.str "either")) (ac (af 0) (ac (av (ac (eC (.str "not")) (ac (af 0) ag))) ag)))) ag)))) (ac (av (ac (eC (.str "both")) (ac (av (ac (eC (.str "not")) (ac (af 2) ag))) (ac (af 0) ag)))) ag)))))
 (ao (aA 3 (e2 bF (af 3) (aT (ac (av (ac (eC (.str "both")) (ac (av (ac (eC (.str "not")) (ac (af 1) ag))) (ac (av (ac (eC (.str "not")) (ac (av (ac (eC (.str "not")) (ac (af 1) ag))) ag))) ag)))) (ac (av (ac (eC (.str "either")) (ac (af 1) (ac (af 2) ag)))) (ac (av (ac (eC (.str "both")) (ac (af 2) (ac (af 2) ag)))) ag))))))
 (ao (aA 3 (e2 bF (af 3) (aT (ac (av (ac (eC (.str "not")) (ac (av (ac (eC (.str "both")) (ac (af 1) (ac (af 1) ag)))) ag))) ag))))
 (ao (aA 4 (af 0))
 (ao (eU (cx (ac (eC (.int 27)) ag)) (gN 5) iA)
 (ao (aA 3 (e2 bF (af 3) (aT (ac (av (ac (eC (.str "not")) (ac (af 0) (ac (af 0) ag)))) (ac (av (ac (eC (.str "both")) (ac (af 0) ag))) (ac (av (ac (eC (.str "either")) (ac (af 0) (ac (af 0) (ac (af 0) ag))))) (ac (av (ac (eC (.str "not")) ag)) (ac (av (ac (eC (.str "both")) ag)) ag))))))))
 (aD (e2 bF (af 3) (aT (ac (av (ac (eC (.str "not")) (ac (aT (ac (af 0) ag)) ag))) (ac (af 4) ag))))))))))))))
def cK:List D->Option (D × En):=fnF 5 [0] gJ
def mK {k:Nat} (T:Bl mg)   (F:Fun K "_law_shapes" "_law_shapes" gu f fd):FnOk P w K mg base CX0 (k+1) f fd ["_law_one"] (spF K [0] 1 cK):=by
 have nd:=sc_law_shapes.nd;refine F.okQ (N:=jy) (b:=gJ) (J:=⟨[],[0,0,0,0,0,0],1,[]⟩) (ds0:=[0,0,0,0,0,0]) sc_law_shapes rfl rfl rfl rfl fun cdv A outer s H E hr=>?_;exact (ah (aM 1 [0,0,0,0,0,0] nd (aj (d:=0) (c:=0) (aa ai (aa (fv 0 rfl rfl) (aa (fv 0 rfl rfl) ad rfl) rfl) rfl) rfl rfl) rfl rfl rfl) (ah (aM 2 [0,0,0,0,0,0] nd (aj (d:=0) (c:=0) (aa ai (aa (fv 1 rfl rfl) (aa (fv 0 rfl rfl) ad rfl) rfl) rfl) rfl rfl) rfl rfl rfl) (ah (aM 3 [0,0,0,0,0,0] nd (fs0 (aE (d:=1) (c:=0) (aa (aj (d:=0) (c:=0) (aa ai (aa (aj (d:=0) (c:=0) (aa ai (aa (aj (d:=0) (c:=0) (aa ai (aa (fv 0 rfl rfl) ad rfl) rfl) rfl rfl) ad rfl) rfl) rfl rfl) ad rfl) rfl) rfl rfl) (aa (aj (d:=0) (c:=0) (aa ai (aa (aj (d:=0) (c:=0) (aa ai (aa (aj (d:=0) (c:=0) (aa ai (aa (aj (d:=0) (c:=0) (aa ai (aa (fv 0 rfl rfl) ad rfl) rfl) rfl rfl) ad rfl) rfl) rfl rfl) ad rfl) rfl) rfl rfl) ad rfl) rfl) rfl rfl) (aa (aj (d:=0) (c:=0) (aa ai (aa (fv 2 rfl rfl) (aa (fv 1 rfl rfl) ad rfl) rfl) rfl) rfl rfl) ad rfl) rfl) rfl) rfl rfl (by decide))) rfl rfl rfl) (ah (aM 3 [0,0,0,0,0,0] nd (fs0 (ak (aR (K:=K) rfl) (fv 3 rfl rfl) (aE (d:=1) (c:=0) (aa (aj (d:=0) (c:=0) (aa ai (aa (fv 2 rfl rfl) (aa (aj (d:=0) (c:=0) (aa ai (aa (fv 0 rfl rfl) (aa (aj (d:=0) (c:=0) (aa ai (aa (fv 0 rfl rfl) ad rfl) rfl) rfl rfl) ad rfl) rfl) rfl) rfl rfl) ad rfl) rfl) rfl) rfl rfl) (aa (aj (d:=0) (c:=0) (aa ai (aa (aj (d:=0) (c:=0) (aa ai (aa (fv 2 rfl rfl) ad rfl) rfl) rfl rfl) (aa (fv 0 rfl rfl) ad rfl) rfl) rfl) rfl rfl) ad rfl) rfl) rfl rfl (by decide)))) rfl rfl rfl) (ah (aM 3 [0,0,0,0,0,0] nd (fs0 (ak (aR (K:=K) rfl) (fv 3 rfl rfl) (aE (d:=1) (c:=0) (aa (aj (d:=0) (c:=0) (aa ai (aa (aj (d:=0) (c:=0) (aa ai (aa (fv 1 rfl rfl) ad rfl) rfl) rfl rfl) (aa (aj (d:=0) (c:=0) (aa ai (aa (aj (d:=0) (c:=0) (aa ai (aa (fv 1 rfl rfl) ad rfl) rfl) rfl rfl) ad rfl) rfl) rfl rfl) ad rfl) rfl) rfl) rfl rfl) (aa (aj (d:=0) (c:=0) (aa ai (aa (fv 1 rfl rfl) (aa (fv 2 rfl rfl) ad rfl) rfl) rfl) rfl rfl) (aa (aj (d:=0) (c:=0) (aa ai (aa (fv 2 rfl rfl) (aa (fv 2 rfl rfl) ad rfl) rfl) rfl) rfl rfl) ad rfl) rfl) rfl) rfl rfl (by decide)))) rfl rfl rfl) (ah (aM 3 [0,0,0,0,0,0] nd (fs0 (ak (aR (K:=K) rfl) (fv 3 rfl rfl) (aE (d:=1) (c:=0) (aa (aj (d:=0) (c:=0) (aa ai (aa (aj (d:=0) (c:=0) (aa ai (aa (fv 1 rfl rfl) (aa (fv 1 rfl rfl) ad rfl) rfl) rfl) rfl rfl) ad rfl) rfl) rfl rfl) ad rfl) rfl rfl (by decide)))) rfl rfl rfl) (ah (aM 4 [0,0,0,0,0,0] nd (fv 0 rfl rfl) rfl rfl rfl) (ah (cN (ds1:=[0,0,0,0,0,0]) rfl (b8 rfl T.range0 (aa (fs0 ae) ad rfl) rfl) (aI (i:=5) (ds':=[0,0,0,0,0,0]) nd rfl (.inl rfl) rfl (by decide) (by decide) (.inl rfl)) (b7 (aM 4 [0,0,0,0,0,0] nd (aj (d:=0) (c:=0) (aa ai (aa (fv 4 rfl rfl) ad rfl) rfl) rfl rfl) rfl rfl rfl)) PassesOwn.never (fun _=>rfl)) (ah (aM 3 [0,0,0,0,0,0] nd (fs0 (ak (aR (K:=K) rfl) (fv 3 rfl rfl) (aE (d:=1) (c:=0) (aa (aj (d:=0) (c:=0) (aa ai (aa (fv 0 rfl rfl) (aa (fv 0 rfl rfl) ad rfl) rfl) rfl) rfl rfl) (aa (aj (d:=0) (c:=0) (aa ai (aa (fv 0 rfl rfl) ad rfl) rfl) rfl rfl) (aa (aj (d:=0) (c:=0) (aa ai (aa (fv 0 rfl rfl) (aa (fv 0 rfl rfl) (aa (fv 0 rfl rfl) ad rfl) rfl) rfl) rfl) rfl rfl) (aa (aj (d:=3) (c:=3) (aa ai ad rfl) rfl rfl) (aa (aj (d:=3) (c:=3) (aa ai ad rfl) rfl rfl) ad rfl) rfl) rfl) rfl) rfl) rfl rfl (by decide)))) rfl rfl rfl) (frt (ak (aR (K:=K) rfl) (fv 3 rfl rfl) (aE (d:=1) (c:=0) (aa (aj (d:=2) (c:=1) (aa ai (aa (aE (d:=1) (c:=0) (aa (fv 0 rfl rfl) ad rfl) rfl rfl (by decide)) ad rfl) rfl) rfl rfl) (aa (fv 4 rfl rfl) ad rfl) rfl) rfl rfl (by decide))) rfl))))))))))
abbrev gx:Stmt:=top 38
abbrev jA:List Str:=["_law_tongue_here", "_law_sign", "_law_last", "_law_some"]
def sc_law_bounds:FnScope jA ["_law_tongue_here"] (ap gx):=⟨rfl,rfl,rfl,by decide +kernel,rfl,by decide +kernel,by decide +kernel⟩
def gK:MS:=(ao (aA 1 (e2 ixT (e2 ixA (af 0) (eC (.int 0))) (eC (.int 0))))
 (ao (aA 2 (e2 ce (eN aS (ac (af 0) ag)) (eC (.int 1))))
 (ao (aA 3 (aT (ac (av (ac (eC (.str "long")) (ac (eC (.int 0)) (ac (eC (.int 0)) ag)))) (ac (av (ac (eC (.str "long")) (ac (eC (.int 30)) (ac (eC (.int 30)) ag)))) (ac (av (ac (eC (.str "long")) (ac (eC (.int 30)) (ac (eC .none) ag)))) (ac (av (ac (eC (.str "long")) (ac (eC (.int 31)) (ac (eC .none) ag)))) (ac (av (ac (eC (.str "long")) (ac (eC (.int 0)) (ac (eC (.int 31)) ag)))) (ac (av (ac (eC (.str "long")) (ac (eC (.int 5)) (ac (eC (.int 4)) ag)))) ag))))))))
 (ao (aA 3 (e2 bF (af 3) (aT (ac (av (ac (eC (.str "long")) (ac (eC (.int 31)) (ac (eC (.int 31)) ag)))) (ac (av (ac (eC (.str "long")) (ac (eC (.int 0)) (ac (eC (.int 30)) ag)))) (ac (av (ac (eC (.str "long")) (ac (e1 kj (eC (.int 1))) (ac (eC (.int 3)) ag)))) (ac (av (ac (eC (.str "least")) (ac (af 2) (ac (eC (.int 9)) ag)))) (ac (av (ac (eC (.str "least")) (ac (e2 bp (af 2) (eC (.int 1))) (ac (eC (.int 0)) ag)))) ag))))))))
 (ao (aA 3 (e2 bF (af 3) (aT (ac (av (ac (eC (.str "least")) (ac (eC (.int 0)) (ac (eC (.int 10)) ag)))) (ac (av (ac (eC (.str "least")) (ac (e1 kj (eC (.int 1))) (ac (eC (.int 1)) ag)))) (ac (av (ac (eC (.str "often")) (ac (af 1) (ac (eC (.int 0)) ag)))) (ac (av (ac (eC (.str "often")) (ac (af 1) (ac (eC (.int 3)) ag)))) (ac (av (ac (eC (.str "often")) (ac (af 1) (ac (eC (.int 4)) ag)))) ag))))))))
 (ao (aA 3 (e2 bF (af 3) (aT (ac (av (ac (eC (.str "often")) (ac (e2 bp (af 1) (af 1)) (ac (eC (.int 1)) ag)))) (ac (av (ac (eC (.str "often")) (ac (eC (.str "")) (ac (eC (.int 1)) ag)))) (ac (av (ac (eC (.str "often")) (ac (af 1) (ac (e1 kj (eC (.int 1))) ag)))) (ac (av (ac (eC (.str "without")) (ac (e2 je (af 1) (eC (.int 6))) ag))) ag)))))))
 (ao (aA 3 (e2 bF (af 3) (aT (ac (av (ac (eC (.str "apart")) (ac (eC (.int 0)) ag))) (ac (av (ac (eC (.str "least")) (ac (eC (.int 0)) (ac (eC (.int 0)) ag)))) (ac (av (ac (eC (.str "long")) (ac (eC (.int 0)) (ac (eC .none) ag)))) ag))))))
 (ao (aA 3 (e2 bF (af 3) (aT (ac (av (ac (eC (.str "without")) (ac (e2 je (af 1) (eC (.int 7))) ag))) (ac (av (ac (eC (.str "begins")) (ac (e2 je (af 1) (eC (.int 6))) ag))) (ac (av (ac (eC (.str "ends")) (ac (e2 je (af 1) (eC (.int 7))) ag))) (ac (av (ac (eC (.str "ends")) (ac (eC (.str "")) ag))) ag)))))))
 (aD (e2 bF (af 3) (aT (ac (av (ac (eC (.str "often")) (ac (eM joinD (eC (.str "")) (ac (af 0) ag)) (ac (eC (.int 1)) ag)))) ag))))))))))))
def cL:List D->Option (D × En):=fnF 3 [0] gK
def mL {k:Nat} (T:Bl mg)   (F:Fun K "_law_bounds" "_law_bounds" gx f fd):FnOk P w K mg base CX0 (k+1) f fd ["_law_tongue_here"] (spF K [0] 1 cL):=by
 have nd:=sc_law_bounds.nd;refine F.okQ (N:=jA) (b:=gK) (J:=⟨[],[0,0,0,0],1,[]⟩) (ds0:=[0,0,0,0]) sc_law_bounds rfl rfl rfl rfl fun cdv A outer s H E hr=>?_;exact (ah (aM 1 [0,0,0,0] nd (fs0 (dC qN (fxi rfl (fv 0 rfl rfl)) ae (fun _ _=>rfl))) rfl rfl rfl) (ah (aM 2 [0,0,0,0] nd (fs0 (ak bM (fln rfl T.len0 (aa (fv 0 rfl rfl) ad rfl) rfl rfl) ae)) rfl rfl rfl) (ah (aM 3 [0,0,0,0] nd (fs0 (aE (d:=3) (c:=3) (aa (aj (d:=3) (c:=3) (aa ai (aa ae (aa ae ad rfl) rfl) rfl) rfl rfl) (aa (aj (d:=3) (c:=3) (aa ai (aa ae (aa ae ad rfl) rfl) rfl) rfl rfl) (aa (aj (d:=3) (c:=3) (aa ai (aa ae (aa cS ad rfl) rfl) rfl) rfl rfl) (aa (aj (d:=3) (c:=3) (aa ai (aa ae (aa cS ad rfl) rfl) rfl) rfl rfl) (aa (aj (d:=3) (c:=3) (aa ai (aa ae (aa ae ad rfl) rfl) rfl) rfl rfl) (aa (aj (d:=3) (c:=3) (aa ai (aa ae (aa ae ad rfl) rfl) rfl) rfl rfl) ad rfl) rfl) rfl) rfl) rfl) rfl) rfl rfl (by decide))) rfl rfl rfl) (ah (aM 3 [0,0,0,0] nd (fs0 (ak (aR (K:=K) rfl) (fv 3 rfl rfl) (aE (d:=1) (c:=0) (aa (aj (d:=3) (c:=3) (aa ai (aa ae (aa ae ad rfl) rfl) rfl) rfl rfl) (aa (aj (d:=3) (c:=3) (aa ai (aa ae (aa ae ad rfl) rfl) rfl) rfl rfl) (aa (aj (d:=3) (c:=3) (aa ai (aa (ix jm ae) (aa ae ad rfl) rfl) rfl) rfl rfl) (aa (aj (d:=0) (c:=0) (aa ai (aa (fv 2 rfl rfl) (aa ae ad rfl) rfl) rfl) rfl rfl) (aa (aj (d:=3) (c:=3) (aa ai (aa (ak bj (fv 2 rfl rfl) ae) (aa ae ad rfl) rfl) rfl) rfl rfl) ad rfl) rfl) rfl) rfl) rfl) rfl rfl (by decide)))) rfl rfl rfl) (ah (aM 3 [0,0,0,0] nd (fs0 (ak (aR (K:=K) rfl) (fv 3 rfl rfl) (aE (d:=1) (c:=0) (aa (aj (d:=3) (c:=3) (aa ai (aa ae (aa ae ad rfl) rfl) rfl) rfl rfl) (aa (aj (d:=3) (c:=3) (aa ai (aa (ix jm ae) (aa ae ad rfl) rfl) rfl) rfl rfl) (aa (aj (d:=0) (c:=0) (aa ai (aa (fv 1 rfl rfl) (aa ae ad rfl) rfl) rfl) rfl rfl) (aa (aj (d:=0) (c:=0) (aa ai (aa (fv 1 rfl rfl) (aa ae ad rfl) rfl) rfl) rfl rfl) (aa (aj (d:=0) (c:=0) (aa ai (aa (fv 1 rfl rfl) (aa ae ad rfl) rfl) rfl) rfl rfl) ad rfl) rfl) rfl) rfl) rfl) rfl rfl (by decide)))) rfl rfl rfl) (ah (aM 3 [0,0,0,0] nd (fs0 (ak (aR (K:=K) rfl) (fv 3 rfl rfl) (aE (d:=1) (c:=0) (aa (aj (d:=3) (c:=3) (aa ai (aa (ak bj (fv 1 rfl rfl) (fv 1 rfl rfl)) (aa ae ad rfl) rfl) rfl) rfl rfl) (aa (aj (d:=3) (c:=3) (aa ai (aa ai (aa ae ad rfl) rfl) rfl) rfl rfl) (aa (aj (d:=0) (c:=0) (aa ai (aa (fv 1 rfl rfl) (aa (ix jm ae) ad rfl) rfl) rfl) rfl rfl) (aa (aj (d:=3) (c:=3) (aa ai (aa (ak fY (fv 1 rfl rfl) ae) ad rfl) rfl) rfl rfl) ad rfl) rfl) rfl) rfl) rfl rfl (by decide)))) rfl rfl rfl) (ah (aM 3 [0,0,0,0] nd (fs0 (ak (aR (K:=K) rfl) (fv 3 rfl rfl) (aE (d:=3) (c:=3) (aa (aj (d:=3) (c:=3) (aa ai (aa ae ad rfl) rfl) rfl rfl) (aa (aj (d:=3) (c:=3) (aa ai (aa ae (aa ae ad rfl) rfl) rfl) rfl rfl) (aa (aj (d:=3) (c:=3) (aa ai (aa ae (aa cS ad rfl) rfl) rfl) rfl rfl) ad rfl) rfl) rfl) rfl rfl (by decide)))) rfl rfl rfl) (ah (aM 3 [0,0,0,0] nd (fs0 (ak (aR (K:=K) rfl) (fv 3 rfl rfl) (aE (d:=3) (c:=3) (aa (aj (d:=3) (c:=3) (aa ai (aa (ak fY (fv 1 rfl rfl) ae) ad rfl) rfl) rfl rfl) (aa (aj (d:=3) (c:=3) (aa ai (aa (ak fY (fv 1 rfl rfl) ae) ad rfl) rfl) rfl rfl) (aa (aj (d:=3) (c:=3) (aa ai (aa (ak fY (fv 1 rfl rfl) ae) ad rfl) rfl) rfl rfl) (aa (aj (d:=3) (c:=3) (aa ai (aa ai ad rfl) rfl) rfl rfl) ad rfl) rfl) rfl) rfl) rfl rfl (by decide)))) rfl rfl rfl) (frt (ak (aR (K:=K) rfl) (fv 3 rfl rfl) (aE (d:=3) (c:=3) (aa (aj (d:=3) (c:=3) (aa ai (aa (cy (K:=K) rfl PySem.F.slot_str_join PySem.F.type_str_join (dA rfl) dB ai (aa (fv 0 rfl rfl) ad rfl) rfl rfl rfl rfl rfl rfl) (aa ae ad rfl) rfl) rfl) rfl rfl) ad rfl) rfl rfl (by decide))) rfl)))))))))
abbrev iR:Stmt:=top 39
abbrev lu:List Str:=["_law_tongue_here", "_law_thing", "_law_shown", "_law_due", "_law_turn", "_law_told_here"]
def sc_law_told:FnScope lu ["_law_tongue_here", "_law_thing"] (ap iR):=⟨rfl,rfl,rfl,by decide +kernel,rfl,by decide +kernel,by decide +kernel⟩
def jB:MS:=(ao (aA 5 (ar cJ (ac (af 0) (ac (af 1) ag))))
 (sIf (bOr (di (tV (e1 (aC "bool") (af 5)))) (bOr (tV (e2 neD (af 5) (af 3))) (tV (e2 neD (eN kK (ac (af 1) ag)) (af 2))))) (aD (eC (.bool false))) aW))
def iY:MS:=(ao (aA 2 (eN kK (ac (af 1) ag)))
 (ao (aA 3 (e2 leI (ar (bo 6) (ac (af 0) (ac (af 1) (ac (eC (.int 4)) ag)))) (eC (.int 9))))
 (ao (eU (cx (ac (eC (.int 2)) ag)) (gN 4) jB)
 (aD (eC (.bool true))))))
def dG:List D->Option (D × En):=fnF 4 [0,0] iY
def nY {k:Nat} (T:Bl mg)  (eR:Kn P w K mg base k "_law_size" ["_law_tongue_here", "_law_thing", "_law_deep"] (spF K [0,0,0] 3 (bo 6))) (nT:Kn P w K mg base k "is_sentence" ["tongue", "thing"] (spF K [0,0] 3 cJ)) (F:Fun K "_law_told" "_law_told" iR f fd):FnOk P w K mg base CX0 (k+1) f fd ["_law_tongue_here", "_law_thing"] (spF K [0,0] 3 dG):=by
 have nd:=sc_law_told.nd;refine F.okQ (N:=lu) (b:=iY) (J:=⟨[],[0,0,0,0,0,0],3,[]⟩) (ds0:=[0,0,0,0,0,0]) sc_law_told rfl rfl rfl rfl fun cdv A outer s H E hr=>?_;exact (ah (aM 2 [0,0,0,0,0,0] nd (fs0 (fcb (nC (K:=K) rfl hr.gd hr.units) T.repr0 (by decide +kernel) (aa (fv 1 rfl rfl) ad rfl) rfl rfl)) rfl rfl rfl) (ah (aM 3 [0,0,0,0,0,0] nd (fs0 (bN fg (fnn eR hr (aa (fv 0 rfl rfl) (aa (fv 1 rfl rfl) (aa (fs0 ae) ad rfl) rfl) rfl) rfl rfl) ae (bA _))) rfl rfl rfl) (ah (cN (ds1:=[0,0,0,0,0,0]) rfl (b8 rfl T.range0 (aa (fs0 ae) ad rfl) rfl) (aI (i:=4) (ds':=[0,0,0,0,0,0]) nd rfl (.inl rfl) rfl (by decide) (by decide) (.inl rfl)) (ah (aM 5 [0,0,0,0,0,0] nd (fs0 (fnn nT hr (aa (fv 0 rfl rfl) (aa (fv 1 rfl rfl) ad rfl) rfl) rfl rfl)) rfl rfl rfl) (b7 (aF (ds2:=[0,0,0,0,0,0]) (qpt (bu (bL (bB (cj (K:=K) (n:="bool") rfl rfl T.isinstance0 rfl T.bool0 (by decide +kernel) (by decide) (fv 5 rfl rfl) (by decide) rfl rfl rfl rfl) (fun _=>rfl))) (bu (ftn rfl hr.units (fv 5 rfl rfl) (fv 3 rfl rfl)) (cC (ftn rfl hr.units (fcb (nC (K:=K) rfl hr.gd hr.units) T.repr0 (by decide +kernel) (aa (fv 1 rfl rfl) ad rfl) rfl rfl) (fv 2 rfl rfl)))))) (frt bv rfl) az))) PassesOwn.never (fun _=>rfl)) (frt bv rfl))))
abbrev e9:Stmt:=top 40
abbrev jv:List Str:=["_law_script", "_law_turn", "_law_pen_here", "_law_tongue_here", "_law_other", "_law_some", "_law_k", "_law_sentence", "_law_bent_here", "_law_good", "_law_thing"]
def sclaw:FnScope jv ["_law_script"] (ap e9):=⟨rfl,rfl,rfl,by decide +kernel,rfl,by decide +kernel,by decide +kernel⟩
def rF:ME:=(av (ac (eC (.str "both")) (ac (af 1) (ac (af 0) ag))))
def rE:ME:=(av (ac (eC (.str "both")) (ac (af 0) (ac (af 1) ag))))
def rD:ME:=(av (ac (eC (.str "either")) (ac (af 1) (ac (af 0) ag))))
def rC:ME:=(av (ac (eC (.str "either")) (ac (af 0) (ac (af 1) ag))))
def rB:ME:=(av (ac (eC (.str "not")) (ac (af 0) ag)))
def nS:MS:=(ao (aA 7 (ar bR (aO 2 (ac (af 3) ag))))
 (ao (aA 8 (ar dH (aO 2 (ac (af 3) (ac (af 4) (ac (af 7) ag))))))
 (ao (aA 9 (ar (aY 6) (aO 2 (ac (af 3) (ac (eC (.int 3)) (ac (aT (ac (eC (.int 7)) ag)) ag))))))
 (ao (aA 5 (e2 bF (e2 bF (e2 bF (af 5) (aT (ac (af 7) (ac (af 9) (ac (ar bR (aO 2 (ac (af 4) ag))) ag))))) (af 8)) (ar cK (ac (af 7) ag))))
 (ao (aA 5 (e2 bF (e2 bF (af 5) (eLC true (c9 (af 8)) (gN 0) cY rF [none,some 9])) (eLC true (c9 (af 8)) (gN 0) cY rE [none,some 9])))
 (ao (aA 5 (e2 bF (e2 bF (af 5) (eLC true (c9 (af 8)) (gN 0) cY rD [none,some 9])) (eLC true (c9 (af 8)) (gN 0) cY rC [none,some 9])))
 (aA 5 (e2 bF (af 5) (eLC true (c9 (af 8)) (gN 0) cY rB [none])))))))))
def rA:ME:=(ar (aY 6) (aO 1 (ac (af 2) (ac (eC (.int 4)) (ac (aT (ac (eC (.int 9)) ag)) ag)))))
def rn:MS:=(sIf (di (tV (ar dG (ac (af 3) (ac (af 10) ag))))) (aD (eC (.bool false))) aW)
def nR:MS:=(ao (aA 2 (ar F_law_pen (ac (af 0) (ac (e2 df (eC (.int 2)) (af 1)) ag))))
 (ao (aA 3 (ar cq (aO 2 ag)))
 (ao (aA 4 (ar cq (ac (ar F_law_pen (ac (af 0) (ac (e2 bp (e2 df (eC (.int 2)) (af 1)) (eC (.int 1))) ag))) ag)))
 (ao (aA 5 (aT (ac (eC .none) (ac (eC (.bool true)) (ac (eC (.int 0)) (ac (eC (.str "apart")) (ac (aT ag) (ac (av ag) (ac jP (ac (aT (ac (eC (.str "apart")) ag)) (ac (af 3) (ac (av (ac (av ag) ag)) (ac (av (ac (eC (.str "apart")) (ac (eC (.str "apart")) ag))) ag)))))))))))))
 (ao (aA 5 (e2 bF (af 5) (ar cL (ac (af 3) ag))))
 (ao (eU (cx (ac (eC (.int 3)) ag)) (gN 6) nS)
 (ao (aA 5 (e2 bF (af 5) (eLC false (cx (ac (eC (.int 4)) ag)) (gN 0) cY rA [none,some 2,some 3])))
 (eU (c9 (af 5)) (gN 10) rn))))))))
def sX:MS:=(ao (eU (cx (ac (eC (.int 2)) ag)) (gN 1) nR)
 (aD (eC (.bool true))))
def pZ:List D->Option (D × En):=fnF 10 [0] sX
def Fg {k:Nat} (T:Bl mg)  (mF:Kn P w K mg base k "_law_pen" ["_law_script", "_law_k"] (spF K [0,0] 3 F_law_pen)) (jE:Kn P w K mg base k "_law_tongue" ["_law_pen_here"] (spF K [1] 0 cq)) (nV:Kn P w K mg base k "_law_bounds" ["_law_tongue_here"] (spF K [0] 1 cL)) (fq:Kn P w K mg base k "_law_plain" ["_law_pen_here", "_law_tongue_here"] (spF K [1,0] 0 bR)) (pY:Kn P w K mg base k "_law_bent" ["_law_pen_here", "_law_tongue_here", "_law_other", "_law_sentence"] (spF K [1,0,0,0] 0 dH)) (cI:Kn P w K mg base k "_law_nested" ["_law_pen_here", "_law_tongue_here", "_law_deep", "_law_room"] (spF K [1,0,0,1] 0 (aY 6))) (nU:Kn P w K mg base k "_law_shapes" ["_law_one"] (spF K [0] 1 cK)) (pX:Kn P w K mg base k "_law_told" ["_law_tongue_here", "_law_thing"] (spF K [0,0] 3 dG)) (F:Fun K "law" "law" e9 f fd):FnOk P w K mg base CX0 (k+1) f fd ["_law_script"] (spF K [0] 3 pZ):=by
 have nd:=sclaw.nd;refine F.okQ (N:=jv) (b:=sX) (J:=⟨[],[0,0,0,0,0,0,0,0,0,0,0],3,[]⟩) (ds0:=[0,0,0,0,0,0,0,0,0,0,0]) sclaw rfl rfl rfl rfl fun cdv A outer s H E hr=>?_;exact (ah (cN (ds1:=[0,0,0,0,0,0,0,0,0,0,0]) rfl (b8 rfl T.range0 (aa (fs0 ae) ad rfl) rfl) (aI (i:=1) (ds':=[0,0,0,0,0,0,0,0,0,0,0]) nd rfl (.inl rfl) rfl (by decide) (by decide) (.inl rfl)) (qJ (ds2:=[0,0,1,0,0,0,0,0,0,0,0]) (ah (cM (i:=2) (d:=1) (ds':=[0,0,1,0,0,0,0,0,0,0,0]) nd rfl (.inr rfl) (eZ (d':=1) (fnn mF hr (aa (fv 0 rfl rfl) (aa (fs0 (ak iw ae (fv 1 rfl rfl))) ad rfl) rfl) rfl rfl) (by decide)) rfl (by decide) (by decide) rfl (.inl rfl)) (ah (cM (i:=3) (d:=0) (ds':=[0,0,1,0,0,0,0,0,0,0,0]) nd rfl (.inr rfl) (fns jE hr (cR 2 ad rfl) rfl rfl) rfl (by decide) (by decide) rfl (.inl rfl)) (ah (aM 4 [0,0,1,0,0,0,0,0,0,0,0] nd (fnn jE hr (aa (eZ (d':=1) (fnn mF hr (aa (fv 0 rfl rfl) (aa (fs0 (ak bj (ak iw ae (fv 1 rfl rfl)) ae)) ad rfl) rfl) rfl rfl) (by decide)) ad rfl) rfl rfl) rfl rfl rfl) (ah (aM 5 [0,0,1,0,0,0,0,0,0,0,0] nd (fs0 (aE (d:=1) (c:=0) (aa cS (aa bv (aa ae (aa ai (aa (aE (d:=3) (c:=3) ad rfl rfl (by decide)) (aa (aj (d:=3) (c:=3) ad rfl rfl) (aa mj (aa (aE (d:=3) (c:=3) (aa ai ad rfl) rfl rfl (by decide)) (aa (fvc 3 rfl rfl) (aa (aj (d:=3) (c:=3) (aa (aj (d:=3) (c:=3) ad rfl rfl) ad rfl) rfl rfl) (aa (aj (d:=3) (c:=3) (aa ai (aa ai ad rfl) rfl) rfl rfl) ad rfl) rfl) rfl) rfl) rfl) rfl) rfl) rfl) rfl) rfl) rfl) rfl rfl (by decide))) rfl rfl rfl) (ah (aM 5 [0,0,1,0,0,0,0,0,0,0,0] nd (fs0 (ak (aR (K:=K) rfl) (fv 5 rfl rfl) (fnn nV hr (aa (fvc 3 rfl rfl) ad rfl) rfl rfl))) rfl rfl rfl) (ah (cN (ds1:=[0,0,1,0,0,0,0,0,0,0,0]) rfl (b8 rfl T.range0 (aa (fs0 ae) ad rfl) rfl) (aI (i:=6) (ds':=[0,0,1,0,0,0,0,0,0,0,0]) nd rfl (.inl rfl) rfl (by decide) (by decide) (.inl rfl)) (ah (aM 7 [0,0,1,0,0,0,0,0,0,0,0] nd (fns fq hr (cR 2 (aa (fvc 3 rfl rfl) ad rfl) rfl) rfl rfl) rfl rfl rfl) (ah (aM 8 [0,0,1,0,0,0,0,0,0,0,0] nd (fns pY hr (cR 2 (aa (fvc 3 rfl rfl) (aa (fv 4 rfl rfl) (aa (fv 7 rfl rfl) ad rfl) rfl) rfl) rfl) rfl rfl) rfl rfl rfl) (ah (cM (i:=9) (d:=0) (ds':=[0,0,1,0,0,0,0,0,0,0,0]) nd rfl (.inr rfl) (fns cI hr (cR 2 (aa (fvc 3 rfl rfl) (aa (fs0 ae) (aa (eZ (d':=1) (aE (d:=3) (c:=3) (aa ae ad rfl) rfl rfl (by decide)) (by decide)) ad rfl) rfl) rfl) rfl) rfl rfl) rfl (by decide) (by decide) rfl (.inl rfl)) (ah (aM 5 [0,0,1,0,0,0,0,0,0,0,0] nd (fs0 (ak (aR (K:=K) rfl) (ak (aR (K:=K) rfl) (ak (aR (K:=K) rfl) (fv 5 rfl rfl) (aE (d:=1) (c:=0) (aa (fv 7 rfl rfl) (aa (fvc 9 rfl rfl) (aa (fns fq hr (cR 2 (aa (fv 4 rfl rfl) ad rfl) rfl) rfl rfl) ad rfl) rfl) rfl) rfl rfl (by decide))) (fv 8 rfl rfl)) (fnn nU hr (aa (fv 7 rfl rfl) ad rfl) rfl rfl))) rfl rfl rfl) (ah (aM 5 [0,0,1,0,0,0,0,0,0,0,0] nd (fs0 (ak (aR (K:=K) rfl) (ak (aR (K:=K) rfl) (fv 5 rfl rfl) (cc (cd:=0) (d:=1) (dsi:=[0,0]) (lk:=[1]) (BlkOkC.of (ns:=["_law_one", "_law_good"]) (js:=[none,some 9]) (N0:=jv) (sc0:=ap e9) rfl rfl (by decide +kernel)) rfl (bI (K:=K) rfl (fv 8 rfl rfl)) (fun _ _ _ _ _=>(aI (i:=0) (ds':=[0,0]) (show (["_law_one", "_law_good"]:List Str).Nodup by decide +kernel) rfl (.inl rfl) rfl (by decide) (by decide) (.inr rfl))) (fun _ _ _ _ _=>bi) (fun _ _ _ _ _=>(aj (d:=0) (c:=0) (aa ai (aa (fvc 1 rfl rfl) (aa (fv 0 rfl rfl) ad rfl) rfl) rfl) rfl rfl)) rfl rfl (by decide) rfl (fun _=>rfl))) (cc (cd:=0) (d:=1) (dsi:=[0,0]) (lk:=[1]) (BlkOkC.of (ns:=["_law_one", "_law_good"]) (js:=[none,some 9]) (N0:=jv) (sc0:=ap e9) rfl rfl (by decide +kernel)) rfl (bI (K:=K) rfl (fv 8 rfl rfl)) (fun _ _ _ _ _=>(aI (i:=0) (ds':=[0,0]) (show (["_law_one", "_law_good"]:List Str).Nodup by decide +kernel) rfl (.inl rfl) rfl (by decide) (by decide) (.inr rfl))) (fun _ _ _ _ _=>bi) (fun _ _ _ _ _=>(aj (d:=0) (c:=0) (aa ai (aa (fv 0 rfl rfl) (aa (fvc 1 rfl rfl) ad rfl) rfl) rfl) rfl rfl)) rfl rfl (by decide) rfl (fun _=>rfl)))) rfl rfl rfl) (ah (aM 5 [0,0,1,0,0,0,0,0,0,0,0] nd (fs0 (ak (aR (K:=K) rfl) (ak (aR (K:=K) rfl) (fv 5 rfl rfl) (cc (cd:=0) (d:=1) (dsi:=[0,0]) (lk:=[1]) (BlkOkC.of (ns:=["_law_one", "_law_good"]) (js:=[none,some 9]) (N0:=jv) (sc0:=ap e9) rfl rfl (by decide +kernel)) rfl (bI (K:=K) rfl (fv 8 rfl rfl)) (fun _ _ _ _ _=>(aI (i:=0) (ds':=[0,0]) (show (["_law_one", "_law_good"]:List Str).Nodup by decide +kernel) rfl (.inl rfl) rfl (by decide) (by decide) (.inr rfl))) (fun _ _ _ _ _=>bi) (fun _ _ _ _ _=>(aj (d:=0) (c:=0) (aa ai (aa (fvc 1 rfl rfl) (aa (fv 0 rfl rfl) ad rfl) rfl) rfl) rfl rfl)) rfl rfl (by decide) rfl (fun _=>rfl))) (cc (cd:=0) (d:=1) (dsi:=[0,0]) (lk:=[1]) (BlkOkC.of (ns:=["_law_one", "_law_good"]) (js:=[none,some 9]) (N0:=jv) (sc0:=ap e9) rfl rfl (by decide +kernel)) rfl (bI (K:=K) rfl (fv 8 rfl rfl)) (fun _ _ _ _ _=>(aI (i:=0) (ds':=[0,0]) (show (["_law_one", "_law_good"]:List Str).Nodup by decide +kernel) rfl (.inl rfl) rfl (by decide) (by decide) (.inr rfl))) (fun _ _ _ _ _=>bi) (fun _ _ _ _ _=>(aj (d:=0) (c:=0) (aa ai (aa (fv 0 rfl rfl) (aa (fvc 1 rfl rfl) ad rfl) rfl) rfl) rfl rfl)) rfl rfl (by decide) rfl (fun _=>rfl)))) rfl rfl rfl) (b7 (aM 5 [0,0,1,0,0,0,0,0,0,0,0] nd (fs0 (ak (aR (K:=K) rfl) (fv 5 rfl rfl) (cc (cd:=0) (d:=1) (dsi:=[0]) (lk:=[]) (BlkOkC.of (ns:=["_law_one"]) (js:=[none]) (N0:=jv) (sc0:=ap e9) rfl rfl (by decide +kernel)) rfl (bI (K:=K) rfl (fv 8 rfl rfl)) (fun _ _ _ _ _=>(aI (i:=0) (ds':=[0]) (show (["_law_one"]:List Str).Nodup by decide +kernel) rfl (.inl rfl) rfl (by decide) (by decide) (.inr rfl))) (fun _ _ _ _ _=>bi) (fun _ _ _ _ _=>(aj (d:=0) (c:=0) (aa ai (aa (fv 0 rfl rfl) ad rfl) rfl) rfl rfl)) rfl rfl (by decide) rfl (fun _=>rfl)))) rfl rfl rfl)))))))) PassesOwn.never (fun _=>rfl)) (ah (aM 5 [0,0,1,0,0,0,0,0,0,0,0] nd (fs0 (ak (aR (K:=K) rfl) (fv 5 rfl rfl) (iK (cd:=0) (d:=1) (dsi:=[0,1,0]) (lk:=[1,2]) (BlkOkC.of (ns:=["_law_k", "_law_pen_here", "_law_tongue_here"]) (js:=[none,some 2,some 3]) (N0:=jv) (sc0:=ap e9) rfl rfl (by decide +kernel)) rfl (b8 rfl T.range0 (aa (fs0 ae) ad rfl) rfl) (fun _ _ _ _ _=>(aI (i:=0) (ds':=[0,1,0]) (show (["_law_k", "_law_pen_here", "_law_tongue_here"]:List Str).Nodup by decide +kernel) rfl (.inl rfl) rfl (by decide) (by decide) (.inr rfl))) (fun _ _ _ _ _=>bi) (fun _ _ _ _ _=>(fns cI hr (cR 1 (aa (fvc 2 rfl rfl) (aa (fs0 ae) (aa (eZ (d':=1) (aE (d:=3) (c:=3) (aa ae ad rfl) rfl rfl (by decide)) (by decide)) ad rfl) rfl) rfl) rfl) rfl rfl)) rfl rfl (by decide) rfl (fun _=>rfl)))) rfl rfl rfl) (b7 (cN (ds1:=[0,0,1,0,0,0,0,0,0,0,0]) rfl (bI (K:=K) rfl (fv 5 rfl rfl)) (aI (i:=10) (ds':=[0,0,1,0,0,0,0,0,0,0,0]) nd rfl (.inl rfl) rfl (by decide) (by decide) (.inl rfl)) (b7 (aF (ds2:=[0,0,1,0,0,0,0,0,0,0,0]) (bL (bB (fnn pX hr (aa (fvc 3 rfl rfl) (aa (fv 10 rfl rfl) ad rfl) rfl) rfl rfl) (fun _=>rfl))) (frt bv rfl) az)) PassesOwn.never (fun _=>rfl)))))))))) rfl) PassesOwn.never (fun _=>rfl)) (frt bv rfl))
end
end W04
set_option maxHeartbeats 1000000
namespace W04
open PySem L2 Tg Pen3
def ms {α:Type} (f:α->Bool):∀ l:List α,ga (l.map fun a=>.bool (f a))=some (l.map f)
 | []=>rfl
 | a :: l=>by
  show (ga (l.map fun a=>.bool (f a))).map (f a :: ·)=_;rw [ms f l];rfl
def all_map {α:Type} (f:α->Bool) (l:List α):kz [.list (l.map fun a=>.bool (f a))]=some (.bool (l.all f)):=by
 show (ga _).map _=_;rw [ms];show some (PyData.bool ((l.map f).all id))=_;rw [List.all_map];rfl
def Ft (d b:Nat) (t:D):Prop:=t.showable=true/\t.depth<=d/\t.leavesShort 1921=true/\t.bulk<=b/\noX t=true
def Ft.mono {d d' b b':Nat} {t:D} (h:Ft d b t) (hd:d<=d') (hb:b<=b'):Ft d' b' t:=⟨h.1,zau h.2.1 hd,h.2.2.1,zau h.2.2.2.1 hb,h.2.2.2.2⟩
def Ft.rep {t:D} (h:Ft 60 8000 t):∃ z,kK [t]=some (.str z):=by
 obtain ⟨h1,h2,h3,h4,h5⟩:=h;refine ⟨t.shown,if_pos ⟨h5,h1,h2,zau (PyData.shown_le_bulk 1921 (by decide) t h3) ?_⟩⟩;exact zau (show (1921+2) * t.bulk+1921<=15500000 by omega) (by decide)
def Ft.all {d b:Nat}:∀ ts:List D,(∀ t∈ts,Ft d b t)->PyData.showableAll ts=true/\PyData.depthAll ts<=d/\PyData.leavesShortAll 1921 ts=true/\PyData.bulkAll ts<=ts.length * (b+1)/\gh ts=true
 | [],_=>by simp [PyData.showableAll,PyData.depthAll,PyData.leavesShortAll,PyData.bulkAll,gh]
 | t :: ts,h=>by
  obtain ⟨a1,a2,a3,a4,a5⟩:=h t (zaq ..);obtain ⟨b1,b2,b3,b4,b5⟩:=Ft.all ts fun u hu=>h u (zaj _ hu);refine ⟨?_,?_,?_,?_,?_⟩
  ·rw [PyData.showableAll,a1,b1]; rfl
  ·rw [PyData.depthAll]; exact Nat.max_le.mpr ⟨a2,b2⟩
  ·rw [PyData.leavesShortAll,a3,b3]; rfl
  ·rw [PyData.bulkAll,zac,Nat.succ_mul]; omega
  ·rw [gh,a5,b5]; rfl
def Ft.list {d b L:Nat} {ts:List D} (hl:ts.length<=L) (h:∀ t∈ts,Ft d b t):Ft (d+1) (L * (b+1)) (.list ts):=by
 obtain ⟨b1,b2,b3,b4,b5⟩:=Ft.all ts h;refine ⟨?_,?_,?_,?_,?_⟩
 ·rw [PyData.showable,b1]
 ·rw [PyData.depth]; omega
 ·rw [PyData.leavesShort,b3]
 ·rw [PyData.bulk]; exact zau b4 (Nat.mul_le_mul_right _ hl)
 ·rw [noX,b5]
def Ft.tup {d b L:Nat} {ts:List D} (hl:ts.length<=L) (h:∀ t∈ts,Ft d b t):Ft (d+1) (L * (b+1)) (.tuple ts):=by
 obtain ⟨b1,b2,b3,b4,b5⟩:=Ft.all ts h;refine ⟨?_,?_,?_,?_,?_⟩
 ·rw [PyData.showable,b1]
 ·rw [PyData.depth]; omega
 ·rw [PyData.leavesShort,b3]
 ·rw [PyData.bulk]; exact zau b4 (Nat.mul_le_mul_right _ hl)
 ·rw [noX,b5]
def Ft.int {i:Int} (h:i.natAbs < 2 ^ 1920):Ft 0 0 (.int i):=by
 have l:i.natAbs.log2 < 1920:=by
  by_cases z:i.natAbs=0
  ·rw [z]; decide
  ·exact (Nat.log2_lt z).mpr h
 refine ⟨?_,?_,?_,?_,rfl⟩
 ·rw [PyData.showable]; exact zaB l
 ·rw [PyData.depth]; exact zav _
 ·rw [PyData.leavesShort,PyData.shown]; exact zaB (PyProof.Rows.int_text_len_1921 l)
 ·rw [PyData.bulk]; exact zav _
def Ft.bool {b:Bool}:Ft 0 0 (.bool b):=by
 refine ⟨?_,?_,?_,?_,rfl⟩ <;> simp [PyData.showable,PyData.depth,PyData.leavesShort,PyData.bulk]
def Ft.none:Ft 0 0 .none:=by
 refine ⟨?_,?_,?_,?_,rfl⟩ <;> simp [PyData.showable,PyData.depth,PyData.leavesShort,PyData.bulk]
def Ft.dict:Ft 1 0 (.dict []):=by
 refine ⟨?_,?_,?_,?_,rfl⟩ <;> simp [PyData.showable,PyData.showableKv,PyData.depth,PyData.depthKv,PyData.leavesShort,PyData.leavesShortKv,PyData.bulk,PyData.bulkKv]
def Ft.str {z:Str} {n:Nat} (hc:∀ c∈z.cps.toList,c < 16 ^ 8) (hl:z.cps.size<=n):Ft 0 n (.str z):=by
 refine ⟨?_,?_,?_,?_,rfl⟩
 ·simp [PyData.showable]
 ·rw [PyData.depth]; exact zav _
 ·rw [PyData.leavesShort]; exact List.all_eq_true.mpr fun c h=>zaB (hc c h)
 ·rw [PyData.bulk]; exact hl
def Ft.txt {d b:Nat} {z:Str} (h:Ft d b (.str z)):z.length<=b:=by
 have:=h.2.2.2.1;rw [PyData.bulk] at this;exact this
def ER {d b:Nat}:∀ ts:List D,PyData.showableAll ts=true->PyData.depthAll ts<=d->PyData.leavesShortAll 1921 ts=true->PyData.bulkAll ts<=b->gh ts=true->ts.length<=b/\∀ u∈ts,Ft d b u
 | [],_,_,_,_,_=>⟨Nat.zero_le _,by simp⟩
 | t :: ts,h1,h2,h3,h4,h5=>by
  rw [PyData.showableAll,Bool.and_eq_true] at h1;rw [PyData.depthAll] at h2;rw [PyData.leavesShortAll,Bool.and_eq_true] at h3;rw [PyData.bulkAll] at h4;rw [gh,Bool.and_eq_true] at h5;have hd:=Nat.max_le.mp h2;obtain ⟨g1,g2⟩:=ER (d:=d) (b:=PyData.bulkAll ts) ts h1.2 hd.2 h3.2 (zav _) h5.2;refine ⟨by rw [zac]; omega,fun u hu=>?_⟩;rcases zay.mp hu with rfl | hu
  ·exact ⟨h1.1,hd.1,h3.1,by omega,h5.1⟩
  ·exact (g2 u hu).mono (zav _) (by omega)
def Ft.its {d b:Nat} {ts:List D} (h:Ft d b (.tuple ts)):ts.length<=b/\∀ u∈ts,Ft d b u:=by
 obtain ⟨h1,h2,h3,h4,h5⟩:=h;rw [PyData.showable] at h1;rw [PyData.depth] at h2;rw [PyData.leavesShort] at h3;rw [PyData.bulk] at h4;rw [noX] at h5;exact ER ts h1 (by omega) h3 h4 h5
def Ft.nx {d b:Nat} {t:D} (h:Ft d b t):isX t=false:=by
 have h5:=h.2.2.2.2;cases t with
 | dict ks =>
  rw [noX,Bool.and_eq_true] at h5;simpa using h5.1
 | _=>rfl
def isi {d b:Nat} {t:D} (h:Ft d b t) (T:String):aC T t=some (.bool (aG (tyN t) T)):=by
 unfold aC;rw [h.nx];rfl
def szB {n:Nat} (h:n<=100000):n<=sizeLine:=zau h (by decide)
def ll (z:Str):(li z).length=z.length:=zaY
def inI (a b:Int):D->Bool
 | .int n=>decide (a<=n) && decide (n<=b)
 | _=>false
def iH {d b:Nat} {ks:List (D × D)} (h:Ft d b (.dict ks)):aC "int" (.dict ks)=some (.bool false)/\aC "str" (.dict ks)=some (.bool false)/\aC "tuple" (.dict ks)=some (.bool false) :=
 ⟨(isi h "int").trans (congrArg (fun b=>some (PyData.bool b)) (show aG "dict" "int"=false by decide)),(isi h "str").trans (congrArg (fun b=>some (PyData.bool b)) (show aG "dict" "str"=false by decide)),(isi h "tuple").trans (congrArg (fun b=>some (PyData.bool b)) (show aG "dict" "tuple"=false by decide))⟩
def kF {d b:Nat} {t:D} (h:Ft d b t) {x y:Int}:W (aJ [t,.int x,.int y]) (fun r=>r=(.bool (inI x y t),[none,none,none])):=by
 cases t with
 | int n =>
  by_cases h1:x<=n
  ·by_cases h2:n<=y
   ·simp only [aJ,bx,cA,dq,ws,h1,h2,inI,decide_true,Bool.and_self]
   ·simp only [aJ,bx,cA,dq,ws,h1,h2,inI,decide_true,decide_false,Bool.and_false]
  ·simp only [aJ,bx,cA,dq,ws,h1,inI,decide_false,Bool.false_and]
 | dict ks=>simp only [aJ,bx,cA,dq,ws,(iH h).1,inI]
 | _=>simp only [aJ,bx,cA,dq,ws,inI]
def jf {d b:Nat} {t:D} (h:Ft d b t) {x y:Int}:W (aZ [t,.int x,.int y]) (fun r=>r=(.bool (inI x y t),[none,none,none])):=by
 cases t with
 | int n =>
  by_cases h1:x<=n
  ·by_cases h2:n<=y
   ·simp only [aZ,cD,ws,h1,h2,inI,decide_true,Bool.and_self]
   ·simp only [aZ,cD,ws,h1,h2,inI,decide_true,decide_false,Bool.and_false]
  ·simp only [aZ,cD,ws,h1,inI,decide_false,Bool.false_and]
 | dict ks=>simp only [aZ,cD,ws,(iH h).1,inI]
 | _=>simp only [aZ,cD,ws,inI]
def txB (L:List Nat) (m:Nat):D->Bool
 | .str z=>decide (1<=z.length) && (decide (z.length<=m) && (li z).all fun c=>decide (c∈L))
 | _=>false
section
variable {ks:List Str}
def C5 (T:TOk ks):W (eD [tD ks]) (fun r=>r=(.str (sgs ks),[none])):=by
 simp only [eD,jH,ws,fX T]
def mf (T:TOk ks) {z:Str} (hz:z.length<=8000):W (bP [tD ks,.str z]) (fun r=>r=(.bool (decide (z.length<=60) && (li z).all fun c=>decide (c∈aH ks)),[none,none])):=by
 have sB:z.length<=sizeLine:=szB (by omega);by_cases h1:(60:Int) < (z.length:Nat)
 ·have h2:decide (z.length<=60)=false:=zaA (by omega);simp only [bP,dm,ws,h1,h2,sB];simp
 ·have h2:decide (z.length<=60)=true:=zaB (by omega);simp only [bP,dm,ws,h1,h2,sB];refine W.use (C5 T) ?_;rintro _ rfl;simp only [ws];have hl:(ff z).length=z.length:=by unfold ff; rw [zad]; exact zaY
  have e0:ff z=(li z).map s1:=rfl;rw [e0];refine fy (fun t=>match t with | .str y=>.bool (cg (sgs ks) y) | _=>.none) (by rw [<- e0,hl]; exact sB) (fun t ht=>?_) fun o'=>?_
  ·obtain ⟨c,hc,rfl⟩:=zaz.mp ht;simp only [lB,ws]
  ·rw [List.map_map];have e:∀ c:Nat,cg (sgs ks) (mk1 c)=decide (c∈aH ks):=fun c=>StrLaws.found_one (sgs ks) c;have e1:=all_map (fun c:Nat=>decide (c∈aH ks)) (li z);have e2:(li z).map ((fun t:D=>match t with | .str y=>(.bool (cg (sgs ks) y):D) | _=>.none) ∘ s1)=(li z).map fun a=>.bool (decide (a∈aH ks)):=by
    refine List.map_congr_left fun c _=>?_;show PyData.bool (cg (sgs ks) (mk1 c))=_;rw [e c]
   rw [e2];simp only [ws,e1];simp
def lD (T:TOk ks) {t:D} (h:Ft 60 8000 t):W (a9 [tD ks,t]) (fun r=>r=(.bool (txB (aH ks) 6 t),[none,none])):=by
 cases t with
 | str z =>
  have hz:=h.txt;have sB:z.length<=sizeLine:=szB (by omega);simp only [a9,cV,ws,txB];refine W.use (mf T hz) ?_;rintro _ rfl;cases hw:((li z).all fun c=>decide (c∈aH ks)) with
  | false=>simp only [ws,Bool.and_false]
  | true =>
   by_cases h60:z.length<=60
   ·have q60:decide (z.length<=60)=true:=zaB h60;simp only [ws,q60,Bool.and_true,sB];by_cases h1:1<=z.length
    ·have i1:(1:Int)<=(z.length:Nat):=by omega
     by_cases h6:z.length<=6
     ·have i6:((z.length:Nat):Int)<=6:=by omega
      simp only [ws,i1,i6,h1,h6,decide_true,Bool.and_true,sB]
     ·have i6:¬ ((z.length:Nat):Int)<=6:=by omega
      simp only [ws,i1,i6,h1,h6,decide_true,decide_false,Bool.and_false,sB]
    ·have i1:¬ (1:Int)<=(z.length:Nat):=by omega
     simp only [ws,i1,h1,decide_false,Bool.false_and,sB]
   ·have q60:decide (z.length<=60)=false:=zaA h60;have q6:decide (z.length<=6)=false:=zaA (by omega);simp only [ws,q60,q6,Bool.false_and,Bool.and_false]
 | dict ks'=>simp only [a9,cV,bP,dm,ws,(iH h).2.1,txB]
 | _=>simp only [a9,cV,bP,dm,ws,txB]
def jN (T:TOk ks) {t:D} {m:Nat} (hm:m<=100) (h:Ft 60 8000 t):W (bf [tD ks,t,.int (m:Nat)]) (fun r=>r=(.bool (txB (aH ks) m t),[none,none,none])):=by
 cases t with
 | str z =>
  have hz:=h.txt;have sB:z.length<=sizeLine:=szB (by omega);by_cases h1:(z.length:Int) < 1
  ·have q1:decide (1<=z.length)=false:=zaA (by omega);simp only [bf,cU,ws,txB,h1,q1,sB,Bool.false_and]
  ·have q1:decide (1<=z.length)=true:=zaB (by omega);by_cases h2:(m:Int) < (z.length:Nat)
   ·have q2:decide (z.length<=m)=false:=zaA (by omega);simp only [bf,cU,ws,txB,h1,h2,q1,q2,sB,Bool.false_and,Bool.and_false]
   ·have q2:decide (z.length<=m)=true:=zaB (by omega);simp only [bf,cU,ws,txB,h1,h2,q1,q2,sB,zaG];have e0:ff z=(li z).map s1:=rfl;rw [e0];have e:∀ c:Nat,cg (sgs ks) (mk1 c)=decide (c∈aH ks):=fun c=>StrLaws.found_one (sgs ks) c;refine iO (fun i en=>((li z).take i).all (fun c=>decide (c∈aH ks))=true/\∃ o,en=[some (tD ks),some (.str z),some (.int (m:Nat)),o]) ⟨rfl,none,rfl⟩ (fun i t en ht ⟨g1,o,g2⟩=>?_) fun en ⟨g1,o,g2⟩=>?_
    ·subst g2;rw [zao] at ht;obtain ⟨c,hc,rfl⟩:=zab.mp ht;simp only [ws,jC,fX T,e];by_cases hm:c∈aH ks
     ·simp only [hm,decide_true,ws];refine ⟨?_,_,rfl⟩;rw [p8 hc,List.all_append,g1];simp [hm]
     ·simp only [hm,decide_false,ws]
      have:((li z).all fun c=>decide (c∈aH ks))=false:=by
       rw [List.all_eq_false];exact ⟨c,zaX hc,by simpa using hm⟩
      rw [this]
    ·subst g2;rw [zad,List.take_length] at g1;simp only [ws,g1]
 | dict ks'=>simp only [bf,cU,ws,(iH h).2.1,txB]
 | _=>simp only [bf,cU,ws,txB]
end
def km (f:Nat->Str):∀ n x,(x∈bE f n↔∃ i,i < n/\f i=x)
 | 0,x=>by simp [bE]
 | n+1,x=>by
  have ih:=km f n;rw [gP];by_cases q:(bE f n).any (· == f n)=true
  ·rw [if_pos q,ih];constructor
   ·rintro ⟨i,h,e⟩; exact ⟨i,by omega,e⟩
   ·rintro ⟨i,h,e⟩;by_cases hi:i=n
    ·subst hi;obtain ⟨y,hy,e2⟩:=List.any_eq_true.mp q;have e3:y=f i:=by simpa using e2
     rw [<- e,<- e3];exact (ih y).mp hy
    ·exact ⟨i,by omega,e⟩
  ·rw [if_neg q,zax,ih,zaH];constructor
   ·rintro (⟨i,h,e⟩ | e)
    ·exact ⟨i,by omega,e⟩
    ·exact ⟨n,by omega,e.symm⟩
   ·rintro ⟨i,h,e⟩;by_cases hi:i=n
    ·subst hi; exact .inr e.symm
    ·exact .inl ⟨i,by omega,e⟩
def l8 (f:Nat->Str):∀ n,((bE f n).length=n↔((List.range n).map f).Nodup)
 | 0=>by simp [bE]
 | n+1=>by
  have ih:=l8 f n;have le:=jM f n;rw [nj,List.range_succ,zaC,zbc];by_cases q:(bE f n).any (· == f n)=true
  ·rw [if_pos q];constructor
   ·intro h; omega
   ·rintro ⟨_,_,h⟩;obtain ⟨y,hy,e2⟩:=List.any_eq_true.mp q;have e3:y=f n:=by simpa using e2
    obtain ⟨i,hi,e⟩:=(km f n y).mp hy;exact absurd (e.trans e3) (h (f i) (zaz.mpr ⟨i,List.mem_range.mpr hi,rfl⟩) (f n) (by simp))
  ·rw [if_neg q];constructor
   ·intro h;refine ⟨ih.mp (by omega),by simp,fun a ha b hb e=>q ?_⟩;obtain ⟨i,hi,rfl⟩:=zaz.mp ha;have hb':b=f n:=by simpa using hb
    refine List.any_eq_true.mpr ⟨f i,(km f n _).mpr ⟨i,List.mem_range.mp hi,rfl⟩,?_⟩;rw [e,hb'];exact beq_self_eq_true _
   ·rintro ⟨h,_,_⟩
    have:=ih.mpr h;omega
def qh (z:Str):(List.range z.length).map (db z)=(li z).map mk1:=by
 have hl:(li z).length=z.length:=zaY;apply List.ext_getElem
 ·rw [zad,List.length_range,zad,hl]
 ·intro i h1 h2;rw [List.getElem_map,List.getElem_range,List.getElem_map];have hi:i < (li z).length:=by rw [zad] at h2; exact h2
  have e:z.cps[i]?=some (li z)[i]:=by
   rw [<- Array.getElem?_toList];exact zak hi
  unfold db;rw [e]
def oA {a b:Nat} (h:mk1 a=mk1 b):a=b:=by
 have h2:[a]=[b]:=congrArg li h;exact (List.cons.inj h2).1
def p5 {z:Str} (hz:z.length<=1000):W (c7 [.str z]) (fun r=>r=(.bool (decide (li z).Nodup),[none])):=by
 have e2:decide (((bE (db z) z.length).length:Int)=(z.length:Int))=decide (li z).Nodup:=by
  have h:=l8 (db z) z.length;rw [qh] at h;have h2:((li z).map mk1).Nodup↔(li z).Nodup:=by
   rw [List.Nodup,List.Nodup,List.pairwise_map];exact ⟨fun h=>h.imp fun h e=>h (by rw [e]),fun h=>h.imp fun h e=>h (oA e)⟩
  rw [decide_eq_decide,<- h2,<- h];omega
 simp only [c7,il,ws,e2];exact ⟨by omega,sz (by omega)⟩
def qu:∀ (n:Nat) (l:List Nat),l.length=n->((List.range n).filter (fun k=>decide (l.getD k 0∈l.take k))=[]↔l.Nodup)
 | 0,l,h=>by
  rw [za6.mp h];simp
 | n+1,l,h=>by
  have hne:l≠[]:=fun z=>by rw [z] at h; cases h
  obtain ⟨r,x,rfl⟩:∃ r x,l=r++[x]:=⟨l.dropLast,l.getLast hne,(List.dropLast_concat_getLast hne).symm⟩;have hr:r.length=n:=by rw [zae] at h; exact Nat.succ.inj h
  have ih:=qu n r hr;have e1:(List.range n).filter (fun k=>decide ((r++[x]).getD k 0∈(r++[x]).take k))=(List.range n).filter (fun k=>decide (r.getD k 0∈r.take k)):=by
   refine List.filter_congr fun k hk=>?_;have hk':=List.mem_range.mp hk;rw [List.getD_eq_getElem?_getD,zaS (by omega),<- List.getD_eq_getElem?_getD,List.take_append_of_le_length (by omega)]
  have e2:(r++[x]).getD n 0=x:=by
   rw [List.getD_eq_getElem?_getD,List.getElem?_append_right (by omega),hr,Nat.sub_self];rfl
  have e3:(r++[x]).take n=r:=by rw [<- hr,List.take_left]
  rw [List.range_succ,List.filter_append,e1,List.append_eq_nil_iff,ih,List.filter_cons,e2,e3,zbc];constructor
  ·rintro ⟨h1,h2⟩;refine ⟨h1,by simp,fun a ha b hb=>?_⟩;rw [zaH.mp hb];rintro rfl;rw [if_pos (zaB ha)] at h2;cases h2
  ·rintro ⟨h1,_,h3⟩;refine ⟨h1,?_⟩;rw [if_neg (fun z=>h3 x (of_decide_eq_true z) x (zaH.mpr rfl) rfl)];rfl
def oft (L:List Nat) (t:D):Bool:=txB L 4 t && (match t with | .str z=>decide (li z).Nodup | _=>false)
section
variable {ks:List Str}
def rV (T:TOk ks) {t:D} (h:Ft 60 8000 t):W (be [tD ks,t]) (fun r=>r=(.bool (oft (aH ks) t),[none,none])):=by
 cases t with
 | str z =>
  have hz:=h.txt;have sB:z.length<=sizeLine:=szB (by omega);simp only [be,cB,ws,oft,txB];refine W.use (mf T hz) ?_;rintro _ rfl;cases hw:((li z).all fun c=>decide (c∈aH ks)) with
  | false=>simp only [ws,Bool.and_false,Bool.false_and]
  | true =>
   by_cases h60:z.length<=60
   ·have q60:decide (z.length<=60)=true:=zaB h60;simp only [ws,q60,Bool.and_true,sB];by_cases h1:1<=z.length
    ·have i1:(1:Int)<=(z.length:Nat):=by omega
     by_cases h6:z.length<=4
     ·have i6:((z.length:Nat):Int)<=4:=by omega
      simp only [ws,i1,i6,h1,h6,decide_true,zaG,sB];refine W.use (p5 (by omega)) ?_;rintro _ rfl;simp only [ws]
     ·have i6:¬ ((z.length:Nat):Int)<=4:=by omega
      simp only [ws,i1,i6,h1,h6,decide_true,decide_false,Bool.and_false,Bool.false_and,sB]
    ·have i1:¬ (1:Int)<=(z.length:Nat):=by omega
     simp only [ws,i1,h1,decide_false,Bool.false_and,sB]
   ·have q60:decide (z.length<=60)=false:=zaA h60;have q6:decide (z.length<=4)=false:=zaA (by omega);simp only [ws,q60,q6,Bool.false_and,Bool.and_false]
 | dict ks'=>simp only [be,cB,bP,dm,ws,(iH h).2.1,oft,txB,Bool.false_and]
 | _=>simp only [be,cB,bP,dm,ws,oft,txB,Bool.false_and]
def hR:D->D->Bool
 | .int n,b=>decide (0<=n) && decide (n<=30) && (match b with | .none=>true | b=>inI n 30 b)
 | _,_=>false
def pl (ks:List Str) (h:Str):List D->Bool
 | []=>decide (h="apart")
 | [a]=>decide (h="without"\/h="begins"\/h="ends") && txB (aH ks) 6 a
 | [a,b]=>if h="long" then hR a b else if h="least" then inI 0 ((ks.length:Int) - 1) a && inI 0 9 b else if h="often" then oft (aH ks) a && inI 0 3 b else false
 | _=>false
def Ai {a b:D} (ha:Ft 60 8000 a) (hb:Ft 60 8000 b):W (bQ [a,b]) (fun r=>r=(.bool (hR a b),[none,none])):=by
 simp only [bQ,eh,ws];refine W.use (kF ha) ?_;rintro _ rfl;cases a with
 | int n =>
  have e:inI 0 30 (.int n)=(decide (0<=n) && decide (n<=30)):=rfl;rw [e];cases hn:(decide (0<=n) && decide (n<=30)) with
  | false=>simp only [ws,hR,hn,Bool.false_and]
  | true =>
   cases b with
   | none=>simp only [ws,hR,hn,zaG]
   | _ =>
    simp only [ws,hR,hn,zaG];refine W.use (kF hb) ?_;rintro _ rfl;simp only [ws]
 | _=>simp only [inI,ws,hR]
def qc (T:TOk ks) {h:Str} {ts:List D} (hf:∀ u∈ts,Ft 60 8000 u) (hl:ts.length<=8000):W (au [tD ks,.tuple (.str h :: ts)]) (fun r=>r=(.bool (pl ks h ts),[none,none])):=by
 have tl:(List.map PyData.str ks).length=ks.length:=zad _
 match ts,hf,hl with
 | [],hf,hl =>
  by_cases e0:h="apart"
  ·subst e0;simp only [au,ax,ws,pl,hds,Int.reduceEq,tl,tD,true_or,or_true,or_self,decide_true,decide_false,Bool.false_and,if_false,if_true]
  by_cases e1:h="without"
  ·subst e1;simp only [au,ax,ws,pl,hds,Int.reduceEq,tl,tD,true_or,or_true,or_self,decide_true,decide_false,Bool.false_and,if_false,if_true]
  by_cases e2:h="begins"
  ·subst e2;simp only [au,ax,ws,pl,hds,Int.reduceEq,tl,tD,true_or,or_true,or_self,decide_true,decide_false,Bool.false_and,if_false,if_true]
  by_cases e3:h="ends"
  ·subst e3;simp only [au,ax,ws,pl,hds,Int.reduceEq,tl,tD,true_or,or_true,or_self,decide_true,decide_false,Bool.false_and,if_false,if_true]
  by_cases e4:h="long"
  ·subst e4;simp only [au,ax,ws,pl,hds,Int.reduceEq,tl,tD,true_or,or_true,or_self,decide_true,decide_false,Bool.false_and,if_false,if_true]
  by_cases e5:h="least"
  ·subst e5;simp only [au,ax,ws,pl,hds,Int.reduceEq,tl,tD,true_or,or_true,or_self,decide_true,decide_false,Bool.false_and,if_false,if_true]
  by_cases e6:h="often"
  ·subst e6;simp only [au,ax,ws,pl,hds,Int.reduceEq,tl,tD,true_or,or_true,or_self,decide_true,decide_false,Bool.false_and,if_false,if_true]
  simp only [au,ax,ws,pl,e0,e1,e2,e3,e4,e5,e6,Int.reduceEq,tl,tD,or_self,decide_false,Bool.false_and,if_false,if_true]
 | [x],hf,hl =>
  by_cases e0:h="apart"
  ·subst e0;simp only [au,ax,ws,pl,hds,Int.reduceEq,tl,tD,true_or,or_true,or_self,decide_true,decide_false,Bool.false_and,if_false,if_true]
  by_cases e1:h="without"
  ·subst e1;simp only [au,ax,ws,pl,hds,Int.reduceEq,tl,tD,true_or,or_true,decide_true,zaG,if_false,if_true];refine W.use (show W (a9 [PyData.tuple (ks.map .str),x]) _ from lD T (hf x (by simp))) ?_;rintro _ rfl;simp only [ws]
  by_cases e2:h="begins"
  ·subst e2;simp only [au,ax,ws,pl,hds,Int.reduceEq,tl,tD,true_or,or_true,decide_true,zaG,if_false,if_true];refine W.use (show W (a9 [PyData.tuple (ks.map .str),x]) _ from lD T (hf x (by simp))) ?_;rintro _ rfl;simp only [ws]
  by_cases e3:h="ends"
  ·subst e3;simp only [au,ax,ws,pl,hds,Int.reduceEq,tl,tD,true_or,or_true,decide_true,zaG,if_false,if_true];refine W.use (show W (a9 [PyData.tuple (ks.map .str),x]) _ from lD T (hf x (by simp))) ?_;rintro _ rfl;simp only [ws]
  by_cases e4:h="long"
  ·subst e4;simp only [au,ax,ws,pl,hds,Int.reduceEq,tl,tD,true_or,or_true,or_self,decide_true,decide_false,Bool.false_and,if_false,if_true]
  by_cases e5:h="least"
  ·subst e5;simp only [au,ax,ws,pl,hds,Int.reduceEq,tl,tD,true_or,or_true,or_self,decide_true,decide_false,Bool.false_and,if_false,if_true]
  by_cases e6:h="often"
  ·subst e6;simp only [au,ax,ws,pl,hds,Int.reduceEq,tl,tD,true_or,or_true,or_self,decide_true,decide_false,Bool.false_and,if_false,if_true]
  simp only [au,ax,ws,pl,e0,e1,e2,e3,e4,e5,e6,Int.reduceEq,tl,tD,or_self,decide_false,Bool.false_and,if_false,if_true]
 | [x,y],hf,hl =>
  by_cases e0:h="apart"
  ·subst e0;simp only [au,ax,ws,pl,hds,Int.reduceEq,tl,tD,true_or,or_true,or_self,decide_true,decide_false,Bool.false_and,if_false,if_true]
  by_cases e1:h="without"
  ·subst e1;simp only [au,ax,ws,pl,hds,Int.reduceEq,tl,tD,true_or,or_true,or_self,decide_true,decide_false,Bool.false_and,if_false,if_true]
  by_cases e2:h="begins"
  ·subst e2;simp only [au,ax,ws,pl,hds,Int.reduceEq,tl,tD,true_or,or_true,or_self,decide_true,decide_false,Bool.false_and,if_false,if_true]
  by_cases e3:h="ends"
  ·subst e3;simp only [au,ax,ws,pl,hds,Int.reduceEq,tl,tD,true_or,or_true,or_self,decide_true,decide_false,Bool.false_and,if_false,if_true]
  by_cases e4:h="long"
  ·subst e4;simp only [au,ax,ws,pl,hds,Int.reduceEq,tl,tD,if_false,if_true];refine W.use (Ai (hf x (by simp)) (hf y (by simp))) ?_;rintro _ rfl;simp only [ws]
  by_cases e5:h="least"
  ·subst e5;simp only [au,ax,ws,pl,hds,Int.reduceEq,tl,tD,if_false,if_true];refine W.use (kF (hf x (by simp))) ?_;rintro _ rfl;cases hx:inI 0 ((ks.length:Int) - 1) x with
   | false=>simp only [ws,Bool.false_and]
   | true =>
    simp only [ws,zaG];refine W.use (kF (hf y (by simp))) ?_;rintro _ rfl;simp only [ws]
  by_cases e6:h="often"
  ·subst e6;simp only [au,ax,ws,pl,hds,Int.reduceEq,tl,tD,if_false,if_true];refine W.use (show W (be [PyData.tuple (ks.map .str),x]) _ from rV T (hf x (by simp))) ?_;rintro _ rfl;cases hx:oft (aH ks) x with
   | false=>simp only [ws,Bool.false_and]
   | true =>
    simp only [ws,zaG];refine W.use (kF (hf y (by simp))) ?_;rintro _ rfl;simp only [ws]
  simp only [au,ax,ws,pl,e0,e1,e2,e3,e4,e5,e6,Int.reduceEq,tl,tD,or_self,decide_false,Bool.false_and,if_false,if_true]
 | x :: y :: z :: r,hf,hl =>
  have n1:¬ (((PyData.str h :: x :: y :: z :: r).length:Nat):Int)=1:=by simp only [zac]; omega
  have n2:¬ (((PyData.str h :: x :: y :: z :: r).length:Nat):Int)=2:=by simp only [zac]; omega
  have n3:¬ (((PyData.str h :: x :: y :: z :: r).length:Nat):Int)=3:=by simp only [zac]; omega
  by_cases e0:h="apart"
  ·subst e0;simp only [au,ax,ws,n1,n2,n3,pl,hds,Int.reduceEq,tl,tD,true_or,or_true,or_self,decide_true,decide_false,Bool.false_and,if_false,if_true]
  by_cases e1:h="without"
  ·subst e1;simp only [au,ax,ws,n1,n2,n3,pl,hds,Int.reduceEq,tl,tD,true_or,or_true,or_self,decide_true,decide_false,Bool.false_and,if_false,if_true]
  by_cases e2:h="begins"
  ·subst e2;simp only [au,ax,ws,n1,n2,n3,pl,hds,Int.reduceEq,tl,tD,true_or,or_true,or_self,decide_true,decide_false,Bool.false_and,if_false,if_true]
  by_cases e3:h="ends"
  ·subst e3;simp only [au,ax,ws,n1,n2,n3,pl,hds,Int.reduceEq,tl,tD,true_or,or_true,or_self,decide_true,decide_false,Bool.false_and,if_false,if_true]
  by_cases e4:h="long"
  ·subst e4;simp only [au,ax,ws,n1,n2,n3,pl,hds,Int.reduceEq,tl,tD,true_or,or_true,or_self,decide_true,decide_false,Bool.false_and,if_false,if_true]
  by_cases e5:h="least"
  ·subst e5;simp only [au,ax,ws,n1,n2,n3,pl,hds,Int.reduceEq,tl,tD,true_or,or_true,or_self,decide_true,decide_false,Bool.false_and,if_false,if_true]
  by_cases e6:h="often"
  ·subst e6;simp only [au,ax,ws,n1,n2,n3,pl,hds,Int.reduceEq,tl,tD,true_or,or_true,or_self,decide_true,decide_false,Bool.false_and,if_false,if_true]
  simp only [au,ax,ws,n1,n2,n3,pl,e0,e1,e2,e3,e4,e5,e6,Int.reduceEq,tl,tD,or_self,decide_false,Bool.false_and,if_false,if_true]
def rZ (T:TOk ks) {x y:D} (hx:Ft 60 8000 x) (hy:Ft 60 8000 y):W (am [tD ks,.tuple [.str "long",x,y]]) (fun r=>r=(.bool (pl ks "long" [x,y]),[none,none])):=by
 simp only [am,aq,ws,pl,hds,Int.reduceEq,if_true];refine W.use (jf hx) ?_;rintro _ rfl;cases x with
 | int n =>
  have e:inI 0 30 (.int n)=(decide (0<=n) && decide (n<=30)):=rfl;rw [e];cases hn:(decide (0<=n) && decide (n<=30)) with
  | false=>simp only [ws,hR,hn,Bool.false_and]
  | true =>
   cases y with
   | none=>simp only [ws,hR,hn,zaG]
   | _ =>
    simp only [ws,hR,hn,zaG];refine W.use (jf hy) ?_;rintro _ rfl;simp only [ws]
 | _=>simp only [inI,ws,hR]
def su (l:List D) (h:∀ u∈l,∃ n,u=.int n):eqD (.list l) (.list [])=some (.bool (decide (l=[]))):=by
 have hd:aL l=true/\cz l=0:=by
  induction l with
  | nil=>exact ⟨rfl,rfl⟩
  | cons u l ih =>
   obtain ⟨n,rfl⟩:=h u zaq;obtain ⟨i1,i2⟩:=ih fun v hv=>h v (zaj _ hv);exact ⟨by simp [aL,aw,i1],by simp [cz,e7,i2]⟩
 show grd _ _=_;unfold grd;rw [if_pos ⟨by simp only [aw]; exact hd.1,rfl,by simp only [e7,hd.2]; decide⟩];cases l with
 | nil=>rfl
 | cons u l=>rfl
def qx (T:TOk ks) {x y:D} (hx:Ft 60 8000 x) (hy:Ft 60 8000 y):W (am [tD ks,.tuple [.str "often",x,y]]) (fun r=>r=(.bool (pl ks "often" [x,y]),[none,none])):=by
 simp only [am,aq,ws,pl,hds,Int.reduceEq,if_true,if_false];refine W.use (jN T (m:=4) (by decide) hx) ?_;rintro _ rfl;cases ht:txB (aH ks) 4 x with
 | false=>simp only [ws,oft,ht,Bool.false_and]
 | true =>
  simp only [ws,oft,ht,zaG];refine W.use (jf hy) ?_;rintro _ rfl;cases hn:inI 0 3 y with
  | false=>simp only [ws,Bool.and_false]
  | true =>
   cases x with
   | str z =>
    have hz:=hx.txt;have sB:z.length<=sizeLine:=szB (by omega);have l4:z.length<=4:=by
     have h0:(decide (1<=z.length) && (decide (z.length<=4) && (li z).all fun c=>decide (c∈aH ks)))=true:=ht;simp only [Bool.and_eq_true,decide_eq_true_eq] at h0;exact h0.2.1
    simp only [ws,Bool.and_true,sB,zaL];refine ⟨by omega,mB (fun t=>match t with | .int k=>decide ((li z).getD k.toNat 0∈(li z).take k.toNat) | _=>false) id (by rw [cu]; exact sz (by omega)) (fun t ht=>?_) (fun t ht _=>?_) fun o'=>?_⟩
    ·obtain ⟨i,hi⟩:=List.getElem?_of_mem ht;obtain ⟨hj,rfl⟩:=ek hi;have hi':i < (li z).length:=by rw [ll]; exact hj
     have ei:ixA (.str z) (.int (i:Nat))=some (.str (mk1 (li z)[i])):=by
      show (if z.length<=sizeLine then (atI z.cps.toList (i:Nat)).map fun c=>PyData.str (mk1 c) else none)=_;rw [if_pos sB,bc,zak hi'];rfl
     have ec:dM z.cps.toList none (some (i:Int))=(li z).take i:=by
      show bK (li z) none (some (i:Int))=_;rw [lh]
     have ef:cg ⟨((li z).take i).toArray⟩ (mk1 (li z)[i])=decide ((li z)[i]∈(li z).take i):=StrLaws.found_one ⟨((li z).take i).toArray⟩ (li z)[i];have eg:(li z).getD i 0=(li z)[i]:=by rw [List.getD_eq_getElem?_getD,zak hi']; rfl
     simp only [Int.zero_add,zaL,eg];simp only [ws,gn,ei,ec,ef,sB]
    ·simp only [ws,gD];rfl
    ·have hm:∀ u∈((gY 0 z.length).filter fun t=>match t with | .int k=>decide ((li z).getD k.toNat 0∈(li z).take k.toNat) | _=>false).map id,∃ n,u=PyData.int n:=fun u hu=>by
      rw [List.map_id] at hu;obtain ⟨i,hi⟩:=List.getElem?_of_mem (List.mem_filter.mp hu).1;obtain ⟨_,rfl⟩:=ek hi;exact ⟨_,rfl⟩
     have en:=su _ hm;have eb:decide ((((gY 0 z.length).filter fun t=>match t with | .int k=>decide ((li z).getD k.toNat 0∈(li z).take k.toNat) | _=>false).map id)=[])=decide (li z).Nodup:=by
      rw [decide_eq_decide,<- qu z.length (li z) (ll z),List.map_id];have er:gY 0 z.length=(List.range z.length).map fun k:Nat=>PyData.int (k:Int):=by
       unfold gY;refine List.map_congr_left fun k _=>?_;rw [Int.zero_add]
      rw [er,List.filter_map,List.map_eq_nil_iff];rfl
     simp only [ws,en,eb]
   | _=>cases ht
def mq:∀ ys:List Str,cz (ys.map PyData.str)=0
 | []=>rfl
 | y :: ys=>by
  rw [zar];simp only [cz,e7,mq ys];rfl
def oq:∀ ys:List Str,aL (ys.map PyData.str)=true
 | []=>rfl
 | y :: ys=>by
  rw [zar];simp only [aL,aw,oq ys];rfl
def Aa (t:D) (z:Str):peq t (.str z)=match t with | .str y=>decide (y=z) | _=>false:=by
 cases t with
 | str y=>simp only [peq,lE]
 | none=>rfl
 | bool b=>rfl
 | int i=>rfl
 | list l=>simp only [peq]
 | tuple l=>simp only [peq]
 | dict l=>simp only [peq]
def oO (z:Str):∀ ys:List Str,((ys.map PyData.str).any fun t=>peq t (.str z))=decide (z∈ys)
 | []=>by simp
 | y :: ys=>by
  rw [zar,List.any_cons,oO z ys,Aa];by_cases h:y=z
  ·simp [h]
  ·have h':¬ z=y:=fun e=>h e.symm;simp [h,h']
def inT (h:Str) (ys:List Str):inL (.str h) (.tuple (ys.map .str))=some (.bool (decide (h∈ys))):=by
 show grd _ _=_;unfold grd;rw [if_pos ⟨rfl,oq ys,by rw [mq]; decide⟩,oO]
def il2 (h:Str):inL (.str h) (.tuple [.str "both",.str "either"])=some (.bool (decide (h="both"\/h="either"))):=by
 have:=inT h ["both", "either"];simp only [zar,List.map_nil] at this;rw [this];congr 2;rw [decide_eq_decide];simp only [zay,zap,or_false]
def il3 (h:Str):inL (.str h) (.tuple [.str "without",.str "begins",.str "ends"])=some (.bool (decide (h="without"\/h="begins"\/h="ends"))):=by
 have:=inT h ["without", "begins", "ends"];simp only [zar,List.map_nil] at this;rw [this];congr 2;rw [decide_eq_decide];simp only [zay,zap,or_false]
def rP (T:TOk ks) {h:Str} {ts:List D} (hf:∀ u∈ts,Ft 60 8000 u) (hl:ts.length<=8000):W (am [tD ks,.tuple (.str h :: ts)]) (fun r=>r=(.bool (pl ks h ts),[none,none])):=by
 have tl:(List.map PyData.str ks).length=ks.length:=zad _
 match ts,hf,hl with
 | [],hf,hl =>
  by_cases e0:h="apart"
  ·subst e0;simp only [am,aq,ws,pl,hds,Int.reduceEq,tl,tD,il3,true_or,or_true,or_self,decide_true,decide_false,Bool.false_and,zaG,if_false,if_true]
  by_cases e1:h="without"
  ·subst e1;simp only [am,aq,ws,pl,hds,Int.reduceEq,tl,tD,il3,true_or,or_true,or_self,decide_true,decide_false,Bool.false_and,zaG,if_false,if_true]
  by_cases e2:h="begins"
  ·subst e2;simp only [am,aq,ws,pl,hds,Int.reduceEq,tl,tD,il3,true_or,or_true,or_self,decide_true,decide_false,Bool.false_and,zaG,if_false,if_true]
  by_cases e3:h="ends"
  ·subst e3;simp only [am,aq,ws,pl,hds,Int.reduceEq,tl,tD,il3,true_or,or_true,or_self,decide_true,decide_false,Bool.false_and,zaG,if_false,if_true]
  by_cases e4:h="long"
  ·subst e4;simp only [am,aq,ws,pl,hds,Int.reduceEq,tl,tD,il3,true_or,or_true,or_self,decide_true,decide_false,Bool.false_and,zaG,if_false,if_true]
  by_cases e5:h="least"
  ·subst e5;simp only [am,aq,ws,pl,hds,Int.reduceEq,tl,tD,il3,true_or,or_true,or_self,decide_true,decide_false,Bool.false_and,zaG,if_false,if_true]
  by_cases e6:h="often"
  ·subst e6;simp only [am,aq,ws,pl,hds,Int.reduceEq,tl,tD,il3,true_or,or_true,or_self,decide_true,decide_false,Bool.false_and,zaG,if_false,if_true]
  simp only [am,aq,ws,pl,e0,e1,e2,e3,e4,e5,e6,Int.reduceEq,tl,tD,il3,or_self,decide_false,Bool.false_and,if_false]
 | [x],hf,hl =>
  by_cases e0:h="apart"
  ·subst e0;simp only [am,aq,ws,pl,hds,Int.reduceEq,tl,tD,il3,true_or,or_true,or_self,decide_true,decide_false,Bool.false_and,zaG,if_false,if_true]
  by_cases e1:h="without"
  ·subst e1;simp only [am,aq,ws,pl,hds,Int.reduceEq,tl,tD,il3,true_or,or_true,or_self,decide_true,decide_false,Bool.false_and,zaG,if_false,if_true];refine W.use (show W (bf [PyData.tuple (ks.map .str),x,.int 6]) _ from jN T (m:=6) (by decide) (hf x (by simp))) ?_;rintro _ rfl;simp only [ws]
  by_cases e2:h="begins"
  ·subst e2;simp only [am,aq,ws,pl,hds,Int.reduceEq,tl,tD,il3,true_or,or_true,or_self,decide_true,decide_false,Bool.false_and,zaG,if_false,if_true];refine W.use (show W (bf [PyData.tuple (ks.map .str),x,.int 6]) _ from jN T (m:=6) (by decide) (hf x (by simp))) ?_;rintro _ rfl;simp only [ws]
  by_cases e3:h="ends"
  ·subst e3;simp only [am,aq,ws,pl,hds,Int.reduceEq,tl,tD,il3,true_or,or_true,or_self,decide_true,decide_false,Bool.false_and,zaG,if_false,if_true];refine W.use (show W (bf [PyData.tuple (ks.map .str),x,.int 6]) _ from jN T (m:=6) (by decide) (hf x (by simp))) ?_;rintro _ rfl;simp only [ws]
  by_cases e4:h="long"
  ·subst e4;simp only [am,aq,ws,pl,hds,Int.reduceEq,tl,tD,il3,true_or,or_true,or_self,decide_true,decide_false,Bool.false_and,zaG,if_false,if_true]
  by_cases e5:h="least"
  ·subst e5;simp only [am,aq,ws,pl,hds,Int.reduceEq,tl,tD,il3,true_or,or_true,or_self,decide_true,decide_false,Bool.false_and,zaG,if_false,if_true]
  by_cases e6:h="often"
  ·subst e6;simp only [am,aq,ws,pl,hds,Int.reduceEq,tl,tD,il3,true_or,or_true,or_self,decide_true,decide_false,Bool.false_and,zaG,if_false,if_true]
  simp only [am,aq,ws,pl,e0,e1,e2,e3,e4,e5,e6,Int.reduceEq,tl,tD,il3,or_self,decide_false,Bool.false_and,if_false]
 | [x,y],hf,hl =>
  by_cases e0:h="apart"
  ·subst e0;simp only [am,aq,ws,pl,hds,Int.reduceEq,tl,tD,il3,true_or,or_true,or_self,decide_true,decide_false,Bool.false_and,zaG,if_false,if_true]
  by_cases e1:h="without"
  ·subst e1;simp only [am,aq,ws,pl,hds,Int.reduceEq,tl,tD,il3,true_or,or_true,or_self,decide_true,decide_false,Bool.false_and,zaG,if_false,if_true]
  by_cases e2:h="begins"
  ·subst e2;simp only [am,aq,ws,pl,hds,Int.reduceEq,tl,tD,il3,true_or,or_true,or_self,decide_true,decide_false,Bool.false_and,zaG,if_false,if_true]
  by_cases e3:h="ends"
  ·subst e3;simp only [am,aq,ws,pl,hds,Int.reduceEq,tl,tD,il3,true_or,or_true,or_self,decide_true,decide_false,Bool.false_and,zaG,if_false,if_true]
  by_cases e4:h="long"
  ·subst e4;exact rZ T (hf x (by simp)) (hf y (by simp))
  by_cases e5:h="least"
  ·subst e5;simp only [am,aq,ws,pl,hds,Int.reduceEq,tl,tD,il3,true_or,or_true,or_self,decide_true,decide_false,Bool.false_and,zaG,if_false,if_true];refine W.use (jf (hf x (by simp))) ?_;rintro _ rfl;cases hx:inI 0 ((ks.length:Int) - 1) x with
   | false=>simp only [ws,Bool.false_and]
   | true =>
    simp only [ws,zaG];refine W.use (jf (hf y (by simp))) ?_;rintro _ rfl;simp only [ws]
  by_cases e6:h="often"
  ·subst e6;exact qx T (hf x (by simp)) (hf y (by simp))
  simp only [am,aq,ws,pl,e0,e1,e2,e3,e4,e5,e6,Int.reduceEq,tl,tD,il3,or_self,decide_false,Bool.false_and,if_false]
 | x :: y :: z :: r,hf,hl =>
  have n1:¬ (((PyData.str h :: x :: y :: z :: r).length:Nat):Int)=1:=by simp only [zac]; omega
  have n2:¬ (((PyData.str h :: x :: y :: z :: r).length:Nat):Int)=2:=by simp only [zac]; omega
  have n3:¬ (((PyData.str h :: x :: y :: z :: r).length:Nat):Int)=3:=by simp only [zac]; omega
  by_cases e0:h="apart"
  ·subst e0;simp only [am,aq,ws,n1,n2,n3,pl,hds,Int.reduceEq,tl,tD,il3,true_or,or_true,or_self,decide_true,decide_false,Bool.false_and,zaG,if_false,if_true]
  by_cases e1:h="without"
  ·subst e1;simp only [am,aq,ws,n1,n2,n3,pl,hds,Int.reduceEq,tl,tD,il3,true_or,or_true,or_self,decide_true,decide_false,Bool.false_and,zaG,if_false,if_true]
  by_cases e2:h="begins"
  ·subst e2;simp only [am,aq,ws,n1,n2,n3,pl,hds,Int.reduceEq,tl,tD,il3,true_or,or_true,or_self,decide_true,decide_false,Bool.false_and,zaG,if_false,if_true]
  by_cases e3:h="ends"
  ·subst e3;simp only [am,aq,ws,n1,n2,n3,pl,hds,Int.reduceEq,tl,tD,il3,true_or,or_true,or_self,decide_true,decide_false,Bool.false_and,zaG,if_false,if_true]
  by_cases e4:h="long"
  ·subst e4;simp only [am,aq,ws,n1,n2,n3,pl,hds,Int.reduceEq,tl,tD,il3,true_or,or_true,or_self,decide_true,decide_false,Bool.false_and,zaG,if_false,if_true]
  by_cases e5:h="least"
  ·subst e5;simp only [am,aq,ws,n1,n2,n3,pl,hds,Int.reduceEq,tl,tD,il3,true_or,or_true,or_self,decide_true,decide_false,Bool.false_and,zaG,if_false,if_true]
  by_cases e6:h="often"
  ·subst e6;simp only [am,aq,ws,n1,n2,n3,pl,hds,Int.reduceEq,tl,tD,il3,true_or,or_true,or_self,decide_true,decide_false,Bool.false_and,zaG,if_false,if_true]
  simp only [am,aq,ws,n1,n2,n3,pl,e0,e1,e2,e3,e4,e5,e6,Int.reduceEq,tl,tD,il3,or_self,decide_false,Bool.false_and,if_false]
def kO {h:Str} (hh:h="not"\/h="both"\/h="either"):∀ r:List D,pl ks h r=false:=by
 intro r;rcases hh with rfl | rfl | rfl
 all_goals
  match r with
  | []=>simp only [pl,hds,decide_false]
  | [_]=>simp only [pl,hds,or_self,decide_false,Bool.false_and]
  | [_,_]=>simp only [pl,hds,if_false]
  | _ :: _ :: _ :: _=>rfl
def szS (ks:List Str):Nat->D->Int
 | 0,_=>1000
 | d+1,.tuple (.str h :: ts)=>if h="not" then (match ts with | [a]=>1+szS ks d a | _=>1000) else if h="both"\/h="either" then (match ts with | [a,b]=>1+szS ks d a+szS ks d b | _=>1000) else if pl ks h ts then 1 else 1000
 | _+1,_=>1000
def fm (ks:List Str):Nat->D->Bool
 | 0,_=>false
 | d+1,.tuple (.str h :: ts)=>if h="not" then (match ts with | [a]=>fm ks d a | _=>false) else if h="both"\/h="either" then (match ts with | [a,b]=>fm ks d a && fm ks d b | _=>false) else pl ks h ts
 | _+1,_=>false
def jK (T:TOk ks):∀ (n d:Nat) (t:D),d < n->Ft 60 8000 t->W (bo n [tD ks,t,.int (d:Nat)]) (fun r=>r=(.int (szS ks d t),[none,none,none]))
 | 0,_,_,h,_=>by omega
 | n+1,0,t,h,hf=>by
  have e:((0:Nat):Int)=0:=rfl;simp only [bo,aV,ws,e,szS]
 | n+1,d+1,t,hd,hf=>by
  have h1:¬ ((d+1:Nat):Int)=0:=by omega
  have h2:((d+1:Nat):Int) - 1=(d:Nat):=by omega
  show W (fnF 0 [0,0,0] (aV (bo n)) _) _;cases t with
  | tuple ts =>
   obtain ⟨hl,hi⟩:=hf.its;have sB:∀ {k:Nat},k<=8000->k<=sizeLine:=fun h=>szB (by omega)
   match ts,hl,hi with
   | [],_,_=>simp only [aV,ws,h1,szS,Int.reduceEq]
   | x :: r,hl,hi =>
    have hx:=hi x zaq;have l0:¬ (((x :: r).length:Nat):Int)=0:=by rw [zac]; omega
    cases x with
    | str h =>
     have hr:∀ u∈r,Ft 60 8000 u:=fun u hu=>hi u (zaj _ hu);have pk:=rP T (h:=h) hr (by rw [zac] at hl; omega);by_cases e1:h="not"
     ·match r,hr,pk with
      | [a],hr,pk =>
       subst e1;have ih:=jK T n d a (by omega) (hr a (by simp));simp only [aV,ws,h1,szS,Int.reduceEq,if_true,h2];refine W.use ih ?_;rintro _ rfl;simp only [ws]
      | [],hr,pk =>
       subst e1;rw [kO (.inl rfl)] at pk;simp only [aV,ws,h1,szS,Int.reduceEq,if_true,il2,hds,or_self,decide_false];refine W.use pk ?_;rintro _ rfl;simp only [ws]
      | a :: b :: c,hr,pk =>
       subst e1;rw [kO (.inl rfl)] at pk;have n2:¬ (((PyData.str "not" :: a :: b :: c).length:Nat):Int)=2:=by simp only [zac]; omega
       have n0:¬ (((PyData.str "not" :: a :: b :: c).length:Nat):Int)=0:=by simp only [zac]; omega
       simp only [aV,ws,h1,szS,Int.reduceEq,if_true,il2,hds,or_self,decide_false,n2,n0];refine W.use pk ?_;rintro _ rfl;simp only [ws]
     ·by_cases e2:h="both"\/h="either"
      ·match r,hr,pk with
       | [a,b],hr,pk =>
        have i1:=jK T n d a (by omega) (hr a (by simp));have i2:=jK T n d b (by omega) (hr b (by simp));simp only [aV,ws,h1,szS,Int.reduceEq,if_true,if_false,h2,e1,e2,il2,decide_true];refine W.use i1 ?_;rintro _ rfl;simp only [ws,h2];refine W.use i2 ?_;rintro _ rfl;simp only [ws]
       | [],hr,pk =>
        rw [kO (.inr e2)] at pk;simp only [aV,ws,h1,szS,Int.reduceEq,if_true,if_false,il2,e1,e2,decide_true];refine W.use pk ?_;rintro _ rfl;simp only [ws]
       | [a],hr,pk =>
        rw [kO (.inr e2)] at pk;simp only [aV,ws,h1,szS,Int.reduceEq,if_true,if_false,il2,e1,e2,decide_true];refine W.use pk ?_;rintro _ rfl;simp only [ws]
       | a :: b :: c :: q,hr,pk =>
        rw [kO (.inr e2)] at pk;have n3:¬ (((PyData.str h :: a :: b :: c :: q).length:Nat):Int)=3:=by simp only [zac]; omega
        have n0:¬ (((PyData.str h :: a :: b :: c :: q).length:Nat):Int)=0:=by simp only [zac]; omega
        simp only [aV,ws,h1,szS,Int.reduceEq,if_true,if_false,il2,e1,e2,decide_true,n3,n0];refine W.use pk ?_;rintro _ rfl;simp only [ws]
      ·simp only [aV,ws,h1,l0,szS,if_false,il2,e1,e2,decide_false];refine W.use pk ?_;rintro _ rfl;cases pl ks h r <;> simp only [ws] <;> rfl
    | dict ks'=>simp only [aV,ws,h1,l0,szS,(iH hx).2.1]
    | _=>simp only [aV,ws,h1,l0,szS]
  | dict ks'=>simp only [aV,ws,h1,szS,(iH hf).2.2]
  | _=>simp only [aV,ws,h1,szS]
def gQ (T:TOk ks):∀ (n d:Nat) (t:D),d < n->Ft 60 8000 t->W (bn n [tD ks,t,.int (d:Nat)]) (fun r=>r=(.bool (fm ks d t),[none,none,none]))
 | 0,_,_,h,_=>by omega
 | n+1,0,t,h,hf=>by
  have e:((0:Nat):Int)=0:=rfl;show W (fnF 1 [0,0,0] (aQ (bn n)) _) _;simp only [aQ,ws,e,fm]
 | n+1,d+1,t,hd,hf=>by
  have h1:¬ ((d+1:Nat):Int)=0:=by omega
  have h2:((d+1:Nat):Int) - 1=(d:Nat):=by omega
  show W (fnF 1 [0,0,0] (aQ (bn n)) _) _;cases t with
  | tuple ts =>
   obtain ⟨hl,hi⟩:=hf.its
   match ts,hl,hi with
   | [],_,_=>simp only [aQ,ws,h1,fm,Int.reduceEq]
   | x :: r,hl,hi =>
    have hx:=hi x zaq;have l0:¬ (((x :: r).length:Nat):Int)=0:=by rw [zac]; omega
    cases x with
    | str h =>
     have hr:∀ u∈r,Ft 60 8000 u:=fun u hu=>hi u (zaj _ hu);have pk:=qc T (h:=h) hr (by rw [zac] at hl; omega);by_cases e1:h="not"
     ·subst e1
      match r,hr,l0 with
      | [a],hr,l0 =>
       have ih:=gQ T n d a (by omega) (hr a (by simp));simp only [aQ,ws,h1,fm,Int.reduceEq,Int.reduceAdd,if_true,aK,a6,hds,gC,h2];refine W.use ih ?_;rintro _ rfl;simp only [ws]
      | [],hr,l0=>simp only [aQ,ws,h1,fm,Int.reduceEq,Int.reduceAdd,if_true,aK,a6,hds]
      | a :: b :: c,hr,l0 =>
       have n2:¬ (((PyData.str "not" :: a :: b :: c).length:Nat):Int)=2:=by simp only [zac]; omega
       simp only [aQ,ws,h1,l0,fm,Int.reduceEq,Int.reduceAdd,if_true,aK,a6,hds,n2]
     ·by_cases e2:h="both"\/h="either"
      ·have pm:W (aK [.str h]) (fun r=>r=(.int 2,[none])):=by
        rcases e2 with rfl | rfl <;> simp only [aK,a6,ws,hds]
       match r,hr,l0 with
       | [a,b],hr,l0 =>
        have i1:=gQ T n d a (by omega) (hr a (by simp));have i2:=gQ T n d b (by omega) (hr b (by simp));simp only [aQ,ws,h1,fm,Int.reduceEq,Int.reduceAdd,e1,e2,if_true,if_false];refine W.use pm ?_;rintro _ rfl;simp only [ws,Int.reduceEq,Int.reduceAdd,gC,h2];refine W.use i1 ?_;rintro _ rfl;simp only [ws,h2];refine W.use i2 ?_;rintro _ rfl;simp only [ws]
       | [],hr,l0 =>
        simp only [aQ,ws,h1,fm,Int.reduceEq,Int.reduceAdd,e1,e2,if_true,if_false];refine W.use pm ?_;rintro _ rfl;simp only [ws,Int.reduceEq,Int.reduceAdd]
       | [a],hr,l0 =>
        simp only [aQ,ws,h1,fm,Int.reduceEq,Int.reduceAdd,e1,e2,if_true,if_false];refine W.use pm ?_;rintro _ rfl;simp only [ws,Int.reduceEq,Int.reduceAdd]
       | a :: b :: c :: q,hr,l0 =>
        have n3:¬ (((PyData.str h :: a :: b :: c :: q).length:Nat):Int)=3:=by simp only [zac]; omega
        simp only [aQ,ws,h1,l0,fm,Int.reduceEq,Int.reduceAdd,e1,e2,if_true,if_false];refine W.use pm ?_;rintro _ rfl;simp only [ws,Int.reduceEq,Int.reduceAdd,n3]
      ·have e3:¬ h="both":=fun z=>e2 (.inl z);have e4:¬ h="either":=fun z=>e2 (.inr z);simp only [aQ,ws,h1,l0,fm,e1,e2,if_false,aK,a6,e3,e4,or_self];refine W.use pk ?_;rintro _ rfl;simp only [ws]
    | dict ks'=>simp only [aQ,ws,h1,l0,fm,(iH hx).2.1]
    | _=>simp only [aQ,ws,h1,l0,fm]
  | dict ks'=>simp only [aQ,ws,h1,fm,(iH hf).2.2]
  | _=>simp only [aQ,ws,h1,fm]
def EY (ks:List Str):∀ (d:Nat) (t:D),(fm ks d t=true->1<=szS ks d t/\szS ks d t < ((2 ^ d:Nat):Int))/\(fm ks d t=false->1000<=szS ks d t):=by
 intro d
 induction d with
 | zero=>exact fun t=>⟨fun z=>(nomatch z),fun _=>by show (1000:Int)<=1000; omega⟩
 | succ d ih =>
  intro t;have p2:(2 ^ (d+1):Nat)=2 ^ d+2 ^ d:=by rw [Nat.pow_succ]; omega
  have p1:1<=2 ^ d:=Nat.one_le_two_pow;have big:szS ks (d+1) t=1000->fm ks (d+1) t=false->(fm ks (d+1) t=true->1<=szS ks (d+1) t/\szS ks (d+1) t < ((2 ^ (d+1):Nat):Int))/\(fm ks (d+1) t=false->1000<=szS ks (d+1) t):=fun h1 h2=>⟨fun z=>(by rw [h2] at z; cases z),fun _=>by omega⟩;have pos:∀ a,1<=szS ks d a:=fun a=>by
   cases h:fm ks d a with
   | true=>exact ((ih a).1 h).1
   | false=>have:=(ih a).2 h; omega
  cases t with
  | tuple ts =>
   match ts with
   | []=>exact big rfl rfl
   | .str h :: r =>
    by_cases e1:h="not"
    ·match r with
     | [a] =>
      have g1:szS ks (d+1) (.tuple [.str h,a])=1+szS ks d a:=by simp only [szS,e1,if_true]
      have g2:fm ks (d+1) (.tuple [.str h,a])=fm ks d a:=by simp only [fm,e1,if_true]
      rw [g1,g2];refine ⟨fun z=>?_,fun z=>?_⟩
      ·have:=(ih a).1 z; omega
      ·have:=(ih a).2 z; omega
     | []=>exact big (by simp only [szS,e1,if_true]) (by simp only [fm,e1,if_true])
     | _ :: _ :: _=>exact big (by simp only [szS,e1,if_true]) (by simp only [fm,e1,if_true])
    ·by_cases e2:h="both"\/h="either"
     ·match r with
      | [a,b] =>
       have g1:szS ks (d+1) (.tuple [.str h,a,b])=1+szS ks d a+szS ks d b:=by simp only [szS,e1,e2,if_true,if_false]
       have g2:fm ks (d+1) (.tuple [.str h,a,b])=(fm ks d a && fm ks d b):=by simp only [fm,e1,e2,if_true,if_false]
       rw [g1,g2];have pa:=pos a;have pb:=pos b;cases ha:fm ks d a with
       | false =>
        have:=(ih a).2 ha;exact ⟨fun z=>(nomatch z),fun _=>by omega⟩
       | true =>
        cases hb:fm ks d b with
        | false =>
         have:=(ih b).2 hb;exact ⟨fun z=>(nomatch z),fun _=>by omega⟩
        | true =>
         have:=(ih a).1 ha
         have:=(ih b).1 hb;exact ⟨fun _=>by omega,fun z=>(nomatch z)⟩
      | []=>exact big (by simp only [szS,e1,e2,if_true,if_false]) (by simp only [fm,e1,e2,if_true,if_false])
      | [_]=>exact big (by simp only [szS,e1,e2,if_true,if_false]) (by simp only [fm,e1,e2,if_true,if_false])
      | _ :: _ :: _ :: _=>exact big (by simp only [szS,e1,e2,if_true,if_false]) (by simp only [fm,e1,e2,if_true,if_false])
     ·have g1:szS ks (d+1) (.tuple (.str h :: r))=if pl ks h r then 1 else 1000:=by simp only [szS,e1,e2,if_false]
      have g2:fm ks (d+1) (.tuple (.str h :: r))=pl ks h r:=by simp only [fm,e1,e2,if_false]
      rw [g1,g2];cases pl ks h r with
      | true=>exact ⟨fun _=>⟨by show (1:Int)<=1; omega,by show (1:Int) < _; omega⟩,fun z=>(nomatch z)⟩
      | false=>exact ⟨fun z=>(nomatch z),fun _=>by show (1000:Int)<=1000; omega⟩
   | .none :: _=>exact big rfl rfl
   | .bool _ :: _=>exact big rfl rfl
   | .int _ :: _=>exact big rfl rfl
   | .list _ :: _=>exact big rfl rfl
   | .tuple _ :: _=>exact big rfl rfl
   | .dict _ :: _=>exact big rfl rfl
  | _=>exact big rfl rfl
def lj (T:TOk ks):∀ (n d:Nat) (t:D),d<=n->Ft 60 8000 t->fm ks d t=true->W (aX n [t]) (fun r=>r=(.int (szS ks d t),[none]))
 | _,0,_,_,_,h=>by cases h
 | 0,d+1,_,h,_,_=>by omega
 | n+1,d+1,t,hd,hf,hm=>by
  show W (fnF 0 [0] (bZ (aX n)) _) _;cases t with
  | tuple ts =>
   obtain ⟨hl,hi⟩:=hf.its
   match ts,hl,hi with
   | [],_,_=>cases hm
   | .str h :: r,hl,hi =>
    have hr:∀ u∈r,Ft 60 8000 u:=fun u hu=>hi u (zaj _ hu);by_cases e1:h="not"
    ·subst e1
     match r,hr,hm with
     | [a],hr,hm =>
      have g2:fm ks (d+1) (.tuple [.str "not",a])=fm ks d a:=by simp only [fm,if_true]
      rw [g2] at hm;have ih:=lj T n d a (by omega) (hr a (by simp)) hm;simp only [bZ,ws,szS,Int.reduceEq,if_true,aK,a6,hds,eS];refine W.use ih ?_;rintro _ rfl;simp only [ws]
      all_goals (simp only [za1,PyData.int.injEq,and_true]; omega)
     | [],_,hm=>simp only [fm,if_true] at hm; cases hm
     | _ :: _ :: _,_,hm=>simp only [fm,if_true] at hm; cases hm
    ·by_cases e2:h="both"\/h="either"
     ·have pm:W (aK [.str h]) (fun r=>r=(.int 2,[none])):=by
       rcases e2 with rfl | rfl <;> simp only [aK,a6,ws,hds]
      match r,hr,hm with
      | [a,b],hr,hm =>
       have g2:fm ks (d+1) (.tuple [.str h,a,b])=(fm ks d a && fm ks d b):=by simp only [fm,e1,e2,if_true,if_false]
       rw [g2,Bool.and_eq_true] at hm;have i1:=lj T n d a (by omega) (hr a (by simp)) hm.1;have i2:=lj T n d b (by omega) (hr b (by simp)) hm.2;simp only [bZ,ws,szS,Int.reduceEq,e1,e2,if_true,if_false];refine W.use pm ?_;rintro _ rfl;simp only [ws,Int.reduceEq,eS];refine W.use i1 ?_;rintro _ rfl;simp only [ws];refine W.use i2 ?_;rintro _ rfl;simp only [ws]
       all_goals (simp only [za1,PyData.int.injEq,and_true]; omega)
      | [],_,hm=>simp only [fm,e1,e2,if_true,if_false] at hm; cases hm
      | [_],_,hm=>simp only [fm,e1,e2,if_true,if_false] at hm; cases hm
      | _ :: _ :: _ :: _,_,hm=>simp only [fm,e1,e2,if_true,if_false] at hm; cases hm
     ·have e3:¬ h="both":=fun z=>e2 (.inl z);have e4:¬ h="either":=fun z=>e2 (.inr z);have g2:fm ks (d+1) (.tuple (.str h :: r))=pl ks h r:=by simp only [fm,e1,e2,if_false]
      rw [g2] at hm;simp only [bZ,ws,szS,e1,e2,if_false,hm,if_true,aK,a6,e3,e4,or_self]
   | .none :: _,_,_=>cases hm
   | .bool _ :: _,_,_=>cases hm
   | .int _ :: _,_,_=>cases hm
   | .list _ :: _,_,_=>cases hm
   | .tuple _ :: _,_,_=>cases hm
   | .dict _ :: _,_,_=>cases hm
  | _=>cases hm
def qE (T:TOk ks) {t:D} (hf:Ft 60 8000 t):W (cJ [tD ks,t]) (fun r=>r=(.bool (decide (szS ks 4 t<=9)),[none,none])):=by
 have g:=EY ks 4 t;simp only [cJ,gE,ws];refine W.use (gQ T 6 4 t (by decide) hf) ?_;rintro _ rfl;cases h:fm ks 4 t with
 | false =>
  have:=g.2 h;rw [zaA (by omega)];simp only [ws]
 | true =>
  simp only [ws];refine W.use (lj T 6 4 t (by decide) hf h) ?_;rintro _ rfl;simp only [ws]
def pq (T:TOk ks) {t:D} (hf:Ft 60 8000 t):W (dG [tD ks,t]) (fun r=>r=(.bool true,[none,none])):=by
 obtain ⟨z,hz⟩:=hf.rep;simp only [dG,iY,ws,hz];refine W.use (jK T 6 4 t (by decide) hf) ?_;rintro _ rfl;simp only [ws];refine ⟨by decide,?_⟩;refine rm (fun en=>∃ x3 x4,en=[some (tD ks),some t,some (.str z),some (.bool (decide (szS ks 4 t<=9))),x3,x4]) ⟨_,_,rfl⟩ (fun u hu en hJ=>?_) fun en hJ=>?_
 ·obtain ⟨x3,x4,rfl⟩:=hJ;simp only [ws,jB];refine W.use (qE T hf) ?_;rintro _ rfl;cases decide (szS ks 4 t<=9) <;> simp only [ws,hz] <;> exact ⟨_,_,rfl⟩
 ·obtain ⟨x3,x4,rfl⟩:=hJ;simp only [ws]
end
def p6 {p:D} {n:Nat} (hp:IsPen p) (hn:n<=93):W (bS [p,.int (n:Int)]) (fun r=>∃ (cs:List Nat) (p':D),r=(.list (cs.map s1),[some p',none])/\cs.length=n/\cs.Nodup/\(∀ c∈cs,c∈li ev)/\IsPen p'):=by
 have e0:fO [.str (("!\"#$&'()*+,-./0123456789:;<=>?@ABCDEFGHIJKLMNOPQRSTUVWXYZ" : Str)++("[\\]^_`abcdefghijklmnopqrstuvwxyz{|}~" : Str))]=some (.list ((li ev).map s1)):=jh (z:=ev) (by rw [nF]; decide);simp only [bS,gH,ws,e0];refine ⟨AY,by omega,rl hp (by rw [cu,nF]; omega) (by rw [nF]; decide) fun cs lf o' p2 pm cl hp2=>?_⟩;rw [cu] at cl;have nd:=(pm.nodup_iff.mpr FQ);simp only [ws];refine ⟨cs,p2,rfl,by omega,(zbc.mp nd).1,fun c hc=>pm.mem_iff.mp (List.mem_append_left _ hc),hp2⟩
def Fb {mo r w:Int} (h1:1<=mo) (r0:0<=r) (r1:r < mo) (w0:0<=w):∃ z:Nat,atI [PyData.int 1,.int mo,.int (1+r)] (if w < 2 then w else 2)=some (.int (z:Int))/\1<=z/\(z:Int)<=mo:=by
 by_cases h0:w=0
 ·subst h0;exact ⟨1,rfl,by omega,by omega⟩
 ·by_cases h2:w=1
  ·subst h2;exact ⟨mo.toNat,by rw [Int.toNat_of_nonneg (by omega)]; rfl,by omega,by omega⟩
  ·rw [if_neg (by omega)];exact ⟨(1+r).toNat,by rw [Int.toNat_of_nonneg (by omega)]; rfl,by omega,by omega⟩
def lZ {p:D} (hp:IsPen p):W (cq [p]) (fun r=>∃ ks p',r=(tD ks,[some p'])/\TOk ks/\IsPen p'):=by
 simp only [cq,gI,ws];refine ck hp (by decide) (by decide) fun r p1 r0 r1 hp1=>?_;obtain ⟨N,hN⟩:∃ N:Nat,(1+r)=(N:Int):=⟨(1+r).toNat,by omega⟩;simp only [ws,hN];refine ck hp1 (by decide) (by decide) fun w p2 w0 w1 hp2=>?_;simp only [ws];refine W.use (p6 (n:=12) hp2 (by decide)) ?_;rintro _ ⟨cs,p3,rfl,cl,nd1,mem,hp3⟩;simp only [ws];refine ⟨by omega,iO (fun i en=>∃ p left ks a b c,en=[some p,some (.int N),some (.int w),some (.list (left.map s1)),some (.list (ks.map .str)),a,b,c]/\IsPen p/\ks.length=i/\(aH ks++left).Nodup/\(∀ c∈aH ks++left,c∈li ev)/\(aH ks).length+left.length=12/\N<=left.length+i/\(∀ k∈ks,1<=(li k).length/\(li k).length<=6)) ⟨p3,cs,[],none,none,none,rfl,hp3,rfl,nd1,mem,by show 0+cs.length=12; omega,by omega,fun _ z=>by cases z⟩ ?_ ?_⟩
 ·rintro i t en ht ⟨p,left,ks,a,b,c,rfl,g1,g2,g3,g4,g5,g6,g7⟩;obtain ⟨hi,rfl⟩:=ek ht;have hi':i < N:=by simpa using hi
  simp only [ws,iz,gt_iff_lt];obtain ⟨mo,hmo⟩:∃ mo:Int,(if (left.length:Int) - ((N:Int) - 1 - (0+(i:Int))) < 6 then (left.length:Int) - ((N:Int) - 1 - (0+(i:Int))) else 6)=mo:=⟨_,rfl⟩;have hm:1<=mo/\mo<=left.length/\mo<=(left.length:Int) - ((N:Int) - 1 - (i:Int))/\mo<=6:=by rw [<- hmo]; split <;> omega
  rw [hmo];refine ck g1 (by omega) (by omega) fun r p1 r0 r1 hp1=>?_;obtain ⟨z,hz,z1,z2⟩:=Fb (mo:=mo) (r:=r) (w:=w) hm.1 r0 r1 w0;have zl:z<=left.length:=by omega
  have st:left.take z++left.drop z=left:=List.take_append_drop z left;have tl:(left.take z).length=z:=by rw [zaE]; omega
  have dl:(left.drop z).length=left.length - z:=zaF;have al:aH (ks++[ofL (left.take z)])++left.drop z=aH ks++left:=by rw [mz,gj,zaD,st]
  simp only [ws,hz,gt_iff_lt,lh,pQ,<- List.map_take,<- List.map_drop,lK (cs:=left.take z) (by omega)];refine ⟨szl (by omega),p1,left.drop z,ks++[ofL (left.take z)],_,_,_,by rw [zaC]; rfl,hp1,by rw [zae,g2]; rfl,by rw [al]; exact g3,by rw [al]; exact g4,?_,by rw [dl]; omega,fun k hk=>?_⟩
  ·rw [mz,gj,zae,tl,dl];omega
  ·rcases zax.mp hk with hk | hk
   ·exact g7 k hk
   ·rw [zaH.mp hk,gj,tl];omega
 ·rintro en ⟨p,left,ks,a,b,c,rfl,g1,g2,g3,g4,g5,g6,g7⟩;rw [cu] at g2 g6;have g2:ks.length=N:=by simpa using g2
  simp only [ws];refine ⟨ks,p,rfl,⟨by omega,by omega,g7,(zbc.mp g3).1,by omega,?_,fun c hc=>g4 c (List.mem_append_left _ hc)⟩,g1⟩;obtain ⟨k,kt,rfl⟩:∃ k kt,ks=k :: kt:=by
   cases ks with
   | nil=>simp at g2; omega
   | cons k kt=>exact ⟨k,kt,rfl⟩
  have:=(g7 k zaq).1;show 1<=(li k++aH kt).length;rw [zae];omega
section
variable {ks:List Str}
def FR:∀ c∈li ev,c < 16 ^ 8:=fun c hc=>by have:=(AZ c hc).2.1; omega
def gl {z:Str} {n:Nat} (h:∀ c∈li z,c∈li ev) (hl:(li z).length<=n):Ft 0 n (.str z):=Ft.str (fun c hc=>FR c (h c hc)) (by rw [<- zaY]; exact hl)
def As {z:Str} {n:Nat} (h:(z.cps.toList.all fun c=>decide (c < 16 ^ 8))=true) (hl:z.cps.size<=n):Ft 0 n (.str z):=Ft.str (fun c hc=>of_decide_eq_true (List.all_eq_true.mp h c hc)) hl
def D6 {n:Int} (h0:-1000<=n) (h1:n<=1000):Ft 0 0 (.int n):=Ft.int (Nat.lt_of_le_of_lt (show n.natAbs<=1000 by omega) (by decide))
def m7 (T:TOk ks) {p:D} {m:Nat} (hp:IsPen p) (hm1:1<=m) (hm:m<=100):W (b9 [p,tD ks,.int (m:Nat)]) (fun r=>∃ z p',r=(.str z,[some p',none,none])/\1<=(li z).length/\(li z).length<=m/\(∀ c∈li z,c∈li ev)/\IsPen p'):=by
 have t1:=T.l1;have t12:=T.l12;have hl:(sgs ks).length=(aH ks).length:=Aj _;simp only [b9,io,ws,fX T];refine ck hp (by omega) (by omega) fun q p1 q0 q1 hp1=>?_;obtain ⟨k,rfl⟩:=zaM q0;have em:((1:Int)+(k:Int)).toNat=k+1:=by omega
 simp only [ws,em];refine ⟨by omega,sT (fun i us en=>∃ (cs:List Nat) (o:Option D) (p:D),us=cs.map s1/\en=[o,some p,some (.str (sgs ks))]/\cs.length=i/\(∀ c∈cs,c∈li ev)/\IsPen p) (by rw [cu]; exact sz (by omega)) ⟨[],none,p1,rfl,rfl,rfl,fun _ h=>(by cases h),hp1⟩ ?_ ?_⟩
 ·rintro i t us en ht _ ⟨cs,o,p,rfl,rfl,h3,h4,hp⟩;simp only [ws,i4];refine ⟨sz (by omega),ck hp (by omega) (by omega) fun r p' r0 r1 hp'=>?_⟩;obtain ⟨j,rfl⟩:=zaM r0;have hk:j < (li (sgs ks)).length:=by show j < (aH ks).length; omega
  have e:atI (li (sgs ks)) (j:Int)=some (li (sgs ks))[j]:=by rw [bc]; exact zak hk
  simp only [ws,e];refine ⟨sz (by omega),cs++[(li (sgs ks))[j]],_,p',by rw [zaC]; rfl,rfl,by rw [zae,h3]; rfl,fun c hc=>?_,hp'⟩;rcases zax.mp hc with hc | hc
  ·exact h4 c hc
  ·rw [zaH.mp hc];exact T.mem _ (zaK (l:=aH ks) hk)
 ·rintro us en _ ⟨cs,o,p,rfl,rfl,h3,h4,hp⟩;rw [cu] at h3;simp only [ws,lK (cs:=cs) (by omega)];exact ⟨ofL cs,p,rfl,by rw [gj]; omega,by rw [gj]; omega,by rw [gj]; exact h4,hp⟩
def Pl (t:D):Prop:=∃ ts,t=.tuple ts/\1<=ts.length/\ts.length<=3/\∀ u∈ts,Ft 0 10 u
def fl1 {d b:Nat} {x:D} (h:Ft d b x):∀ u∈[x],Ft d b u:=fun u hu=>by rw [zaH.mp hu]; exact h
def flc {d b:Nat} {x:D} {l:List D} (h:Ft d b x) (hl:∀ u∈l,Ft d b u):∀ u∈x :: l,Ft d b u:=fun u hu=>by
 rcases zay.mp hu with rfl | hu
 ·exact h
 ·exact hl u hu
def fl0 {d b:Nat}:∀ u∈([]:List D),Ft d b u:=fun u hu=>(by cases hu)
def fw {z:Str} (h:(z.cps.toList.all fun c=>decide (c < 16 ^ 8))=true) (hl:z.cps.size<=10):Ft 0 10 (.str z):=As h hl
def fi {n:Int} (h0:-1000<=n) (h1:n<=1000):Ft 0 10 (.int n):=(D6 h0 h1).mono (zav _) (by decide)
def fr (T:TOk ks) {p:D} (hp:IsPen p):W (bR [p,tD ks]) (fun r=>∃ t p',r=(t,[some p',none])/\Pl t/\IsPen p'):=by
 have t1:=T.l1;have t12:=T.l12;have n1:=T.n1;have n4:=T.n4;simp only [bR,im,ws];refine ck hp (by decide) (by decide) fun w p1 w0 w1 hp1=>?_;simp only [ws];by_cases q0:w=0
 ·simp only [ws,q0];refine ck hp1 (by decide) (by decide) fun lo p2 lo0 lo1 hp2=>?_;simp only [ws];refine ck hp2 (by omega) (by omega) fun h p3 h0 h1 hp3=>?_;simp only [ws];refine ck hp3 (by decide) (by decide) fun b p4 b0 b1 hp4=>?_;have hb:b=0\/b=1:=by omega
  rcases hb with rfl | rfl
  ·simp only [ws];exact ⟨_,p4,rfl,⟨_,rfl,by show 1<=3; decide,by show 3<=3; decide,flc (fw (by decide +kernel) (by decide +kernel)) (flc (fi (by omega) (by omega)) (fl1 (Ft.none.mono (by decide) (by decide))))⟩,hp4⟩
  ·simp only [ws];exact ⟨_,p4,rfl,⟨_,rfl,by show 1<=3; decide,by show 3<=3; decide,flc (fw (by decide +kernel) (by decide +kernel)) (flc (fi (by omega) (by omega)) (fl1 (fi (by omega) (by omega))))⟩,hp4⟩
 by_cases q1:w=1
 ·simp only [ws,q1,tD,zad,Int.reduceEq];refine ck hp1 (by omega) (by omega) fun k p2 k0 k1 hp2=>?_;simp only [ws];refine ck hp2 (by omega) (by omega) fun m p3 m0 m1 hp3=>?_;simp only [ws];exact ⟨_,p3,rfl,⟨_,rfl,by show 1<=3; decide,by show 3<=3; decide,flc (fw (by decide +kernel) (by decide +kernel)) (flc (fi (by omega) (by omega)) (fl1 (fi (by omega) (by omega))))⟩,hp3⟩
 by_cases q2:w=2
 ·have e1:=jh (z:=sgs ks) (by show (aH ks).length<=1000; omega);simp only [ws,q2,Int.reduceEq,fX T,e1,zad];obtain ⟨mo,hmo⟩:∃ mo:Int,(if ((li (sgs ks)).length:Int) < 4 then ((li (sgs ks)).length:Int) else 4)=mo:=⟨_,rfl⟩;have hm':1<=mo/\mo<=(aH ks).length/\mo<=4:=by
   rw [<- hmo];show 1<=(if ((aH ks).length:Int) < 4 then ((aH ks).length:Int) else 4)/\(if ((aH ks).length:Int) < 4 then ((aH ks).length:Int) else 4)<=_/\(if ((aH ks).length:Int) < 4 then ((aH ks).length:Int) else 4)<=4;split <;> omega
  rw [hmo];refine ck hp1 (by omega) (by omega) fun m p2 m0 m1 hp2=>?_;obtain ⟨m,rfl⟩:=zaM m0;have em:((1:Int)+(m:Int)).toNat=m+1:=by omega
  simp only [ws,em];refine ⟨by omega,rl (left:=aH ks) hp2 (by rw [cu]; omega) (by omega) fun cs lf o' p3 hpm hl hp3=>?_⟩;rw [cu] at hl;simp only [ws,lK (cs:=cs) (by omega)];refine ck hp3 (by decide) (by decide) fun a p4 a0 a1 hp4=>?_;simp only [ws];exact ⟨_,p4,rfl,⟨_,rfl,by show 1<=3; decide,by show 3<=3; decide,flc (fw (by decide +kernel) (by decide +kernel)) (flc (gl (fun c hc=>T.mem c (hpm.mem_iff.mp (List.mem_append_left _ hc))) (by rw [gj]; omega)) (fl1 (fi (by omega) (by omega))))⟩,hp4⟩
 by_cases q3:w=3
 ·simp only [ws,q3,Int.reduceEq];exact ⟨_,p1,rfl,⟨_,rfl,by show 1<=1; decide,by show 1<=3; decide,fl1 (fw (by decide +kernel) (by decide +kernel))⟩,hp1⟩
 ·simp only [ws,q0,q1,q2,q3];have hw:w=4\/w=5\/w=6:=by omega
  rcases hw with rfl | rfl | rfl
  all_goals
   simp only [ws,Int.reduceSub];refine W.use (m7 T (m:=6) hp1 (by decide) (by decide)) ?_;rintro _ ⟨z,p2,rfl,z1,z6,zm,hp2⟩;simp only [ws];exact ⟨_,p2,rfl,⟨_,rfl,by show 1<=2; decide,by show 2<=3; decide,flc (fw (by decide +kernel) (by decide +kernel)) (fl1 (gl zm (by omega)))⟩,hp2⟩
def Pl.ft {t:D} (h:Pl t):Ft 1 33 t:=by
 obtain ⟨ts,rfl,h1,h3,hf⟩:=h;exact Ft.tup h3 hf
def up2 {d b d' b':Nat} {x y z:D} (hx:Ft 0 10 x) (hy:Ft d b y) (hz:Ft d b z) (hb:10<=b) (hd:d+1<=d') (hB:3 * (b+1)<=b'):Ft d' b' (.tuple [x,y,z]):=(Ft.tup (L:=3) (by show 3<=3; decide) (flc (hx.mono (Nat.zero_le _) hb) (flc hy (fl1 hz)))).mono hd hB
def up1 {d b d' b':Nat} {x y:D} (hx:Ft 0 10 x) (hy:Ft d b y) (hb:10<=b) (hd:d+1<=d') (hB:2 * (b+1)<=b'):Ft d' b' (.tuple [x,y]):=(Ft.tup (L:=2) (by show 2<=2; decide) (flc (hx.mono (Nat.zero_le _) hb) (fl1 hy))).mono hd hB
def bd:Nat->Nat
 | 0=>10
 | d+1=>3 * (bd d+1)
def sS:∀ d,10<=bd d
 | 0=>zav _
 | d+1=>by have:=sS d; show 10<=3 * (bd d+1); omega
def ey (T:TOk ks):∀ (n d:Nat) {p:D} {r:Int},IsPen p->1<=d->d<=n->W (aY n [p,tD ks,.int (d:Nat),.list [.int r]]) (fun q=>∃ t p' r',q=(t,[some p',none,none,some (.list [.int r'])])/\Ft d (bd d) t/\IsPen p')
 | 0,d,p,r,hp,h1,hn=>by omega
 | n+1,d,p,r,hp,h1,hn=>by
  show W (fnF 2 [1,0,0,1] (dt (aY n)) _) _;simp only [dt,ws];refine ck hp (by decide) (by decide) fun w p1 w0 w1 hp1=>?_;have pl1:∀ {t:D},Pl t->Ft d (bd d) t:=fun {t} h=>h.ft.mono h1 (by
   obtain ⟨e,rfl⟩:∃ e,d=e+1:=⟨d - 1,by omega⟩
   have:=sS e;show 33<=3 * (bd e+1);omega)
  by_cases q1:(d:Int)=1
  ·simp only [ws,q1];refine W.use (fr T hp1) ?_;rintro _ ⟨t,p2,rfl,h,hp2⟩;simp only [ws];exact ⟨t,p2,_,rfl,pl1 h,hp2⟩
  by_cases qw:w=0
  ·simp only [ws,q1,qw];refine W.use (fr T hp1) ?_;rintro _ ⟨t,p2,rfl,h,hp2⟩;simp only [ws];exact ⟨t,p2,_,rfl,pl1 h,hp2⟩
  by_cases qr:r - 1=0
  ·simp only [ws,q1,qw,qr];refine W.use (fr T hp1) ?_;rintro _ ⟨t,p2,rfl,h,hp2⟩;simp only [ws];exact ⟨t,p2,0,rfl,pl1 h,hp2⟩
  obtain ⟨e,rfl⟩:∃ e,d=e+1:=⟨d - 1,by omega⟩;have ed:((e+1:Nat):Int) - 1=(e:Nat):=by omega
  have b10:=sS e;have one:∀ {r2:Int} {t:D} {p2:D},Ft e (bd e) t->IsPen p2->∃ t' p' r',((.tuple [.str "not",t],[some p2,none,none,some (.list [.int r2])]):D × En)=(t',[some p',none,none,some (.list [.int r'])])/\Ft (e+1) (bd (e+1)) t'/\IsPen p':=fun {r2 t p2} ht hp2=>⟨_,p2,r2,rfl,up1 (fw (by decide +kernel) (by decide +kernel)) ht b10 (zav _) (by show _<=3 * (bd e+1); omega),hp2⟩;by_cases q2:w=1
  ·simp only [ws,q1,qw,qr,q2,Int.reduceEq,ed];refine W.use (ey T n e hp1 (by omega) (by omega)) ?_;rintro _ ⟨t,p2,r2,rfl,ht,hp2⟩;simp only [ws];exact one ht hp2
  by_cases q3:r - 1=1
  ·simp only [ws,q1,qw,qr,q2,q3,Int.reduceEq,ed];refine W.use (ey T n e hp1 (by omega) (by omega)) ?_;rintro _ ⟨t,p2,r2,rfl,ht,hp2⟩;simp only [ws];exact one ht hp2
  have hw:w=2\/w=3:=by omega
  rcases hw with rfl | rfl
  all_goals
   simp only [ws,q1,qr,q3,Int.reduceEq,ed];refine W.use (ey T n e hp1 (by omega) (by omega)) ?_;rintro _ ⟨t,p2,r2,rfl,ht,hp2⟩;simp only [ws,ed,Int.reduceSub];refine W.use (ey T n e hp2 (by omega) (by omega)) ?_;rintro _ ⟨t2,p3,r3,rfl,ht2,hp3⟩;simp only [ws];exact ⟨_,p3,r3,rfl,up2 (fw (by decide +kernel) (by decide +kernel)) ht ht2 b10 (zav _) (zav _),hp3⟩
end
section
variable {ks os:List Str}
def oK {α:Type} {xs:List α} {lo hi:Option Int} {x:α} (h:x∈bK xs lo hi):x∈xs:=by
 unfold bK at h
 first
  | exact List.mem_of_mem_drop (List.mem_of_mem_take h)
  | exact List.mem_of_mem_take (List.mem_of_mem_drop h)
def on:∀ {cs A:List Nat},cs.Nodup->(∀ c∈cs,c∈A)->cs.length<=A.length
 | [],_,_,_=>Nat.zero_le _
 | c :: cs,A,nd,h=>by
  have hc:=h c zaq;obtain ⟨n1,n2⟩:=zbb.mp nd;have ih:=on (A:=A.erase c) n2 fun x hx=>(List.mem_erase_of_ne (fun z:x=c=>n1 (by rw [<- z]; exact hx))).mpr (h x (zaj _ hx));rw [List.length_erase_of_mem hc] at ih
  have:=List.length_pos_of_mem hc;rw [zac];omega
def lO {α:Type} (xs:List α) (lo hi:Option Int):(bK xs lo hi).length<=xs.length:=by
 unfold bK;rw [zaE,zaF];omega
def Th (t:D):Prop:=Ft 4 600 t
def ge {ts:List D} (hl:ts.length<=10) (h:∀ u∈ts,Ft 3 40 u):Th (.tuple ts):=(Ft.tup hl h).mono (by decide) (by decide)
def zO {ts:List D} (hl:ts.length<=10) (h:∀ u∈ts,Ft 3 40 u):Th (.list ts):=(Ft.list hl h).mono (by decide) (by decide)
def fap {d b:Nat} {l m:List D} (h:∀ u∈l,Ft d b u) (hs:∀ u∈m,Ft d b u):∀ u∈l++m,Ft d b u:=fun u hu=>(zax.mp hu).elim (h u) (hs u)
def tap {l m:List D} (h:∀ u∈l,Th u) (hs:∀ u∈m,Th u):∀ u∈l++m,Th u:=fun u hu=>(zax.mp hu).elim (h u) (hs u)
def tc {x:D} {l:List D} (h:Th x) (hl:∀ u∈l,Th u):∀ u∈x :: l,Th u:=fun u hu=>by
 rcases zay.mp hu with rfl | hu
 ·exact h
 ·exact hl u hu
def t0:∀ u∈([]:List D),Th u:=fun u hu=>(by cases hu)
def sg:D->List Nat
 | .str z=>li z
 | _=>[]
def Ao {l:List Nat} {c:Nat}:[c] <:+: l↔c∈l:=by
 constructor
 ·rintro ⟨a,b,rfl⟩;simp
 ·intro h;obtain ⟨a,b,rfl⟩:=List.append_of_mem h;exact ⟨a,b,by simp⟩
def Tv (n:Nat) (z:Str):Prop:=(∀ c∈li z,c∈li ev)/\(li z).length<=n
def Tv.len {n:Nat} {z:Str} (h:Tv n z):z.length<=n:=by rw [<- ll]; exact h.2
def Tv.ft {n:Nat} {z:Str} (h:Tv n z) (hn:n<=40):Ft 3 40 (.str z):=(gl h.1 h.2).mono (by decide) hn
def Tv.app {n m:Nat} {y z:Str} (h:Tv n y) (g:Tv m z):Tv (n+m) (y++z):=by
 have e:li (y++z)=li y++li z:=Array.toList_append;refine ⟨fun c hc=>?_,?_⟩
 ·rw [e] at hc;exact (zax.mp hc).elim (h.1 c) (g.1 c)
 ·rw [e,zae]
  have:=h.2
  have:=g.2;omega
def Tv.cut {n:Nat} {z:Str} (h:Tv n z) (lo hi:Option Int):Tv n ⟨(dM z.cps.toList lo hi).toArray⟩:=by
 refine ⟨fun c hc=>h.1 c ?_,?_⟩
 ·have hc':c∈dM z.cps.toList lo hi:=hc;unfold dM at hc';exact List.mem_of_mem_drop (List.mem_of_mem_take hc')
 ·show (dM z.cps.toList lo hi).length<=n;unfold dM;rw [zaE,zaF]
  have:=h.2;have e:(li z).length=z.cps.toList.length:=rfl;omega
def oF {a:Array Nat} (ha:∀ c∈a.toList,c∈li ev):∀ (m:Nat) (b:Array Nat),(∀ c∈b.toList,c∈li ev)->(∀ c∈(List.foldl (fun x1 x2=>x1++x2) b (List.replicate m a)).toList,c∈li ev)/\(List.foldl (fun x1 x2=>x1++x2) b (List.replicate m a)).toList.length=b.toList.length+m * a.toList.length
 | 0,b,hb=>⟨hb,by rw [Nat.zero_mul]; rfl⟩
 | m+1,b,hb=>by
  have ih:=oF ha m (b++a) fun c hc=>by
   rw [Array.toList_append] at hc;exact (zax.mp hc).elim (hb c) (ha c)
  rw [Array.toList_append,zae] at ih;refine ⟨ih.1,ih.2.trans ?_⟩;rw [Nat.succ_mul];omega
def Tv.mul {n m:Nat} {z:Str} (h:Tv n z) (hm:1<=m):Tv (m * n) (Txt.mul z (m:Int)):=by
 have hn:n<=m * n:=by have:=Nat.mul_le_mul_right n hm; omega
 unfold Txt.mul;rw [if_neg (by omega)];split
 ·exact ⟨h.1,zau h.2 hn⟩
 ·rw [zaL]
  have:=oF (a:=z.cps) h.1 m #[] fun c hc=>(by cases hc);exact ⟨this.1,by
   show (List.foldl (fun x1 x2=>x1++x2) #[] (List.replicate m z.cps)).toList.length<=_;rw [this.2]
   have:=Nat.mul_le_mul_left m h.2;show 0+m * (li z).length<=_;omega⟩
def Tv.one {c:Nat} (h:c∈li ev):Tv 1 (mk1 c):=⟨fun d hd=>by
 have:d∈[c]:=hd;rw [zaH.mp this]; exact h,zav 1⟩
def nk {k:Str} {c:Nat} (hc:c∈li k):∀ {ks:List Str},k∈ks->c∈aH ks
 | x :: l,h=>by
  show c∈li x++aH l;rcases zay.mp h with rfl | h
  ·exact List.mem_append_left _ hc
  ·exact List.mem_append_right _ (nk hc h)
def oQ {k:Str} (T:TOk ks) (hk:k∈ks):Tv 6 k:=⟨fun c hc=>T.mem c (nk hc hk),(T.fu k hk).2⟩
def ks0 (T:TOk ks):∃ k,(ks.map PyData.str)[0]?=some (.str k)/\Tv 6 k/\1<=(li k).length:=by
 have n1:=T.n1;have h0:0 < ks.length:=n1;exact ⟨ks[0],by rw [zao,zak h0]; rfl,oQ T (zaK h0),(T.fu _ (zaK h0)).1⟩
def wr (ts:List D) (x:D):D:=.tuple (x :: bK ts (some 1) none)
def zb {ts:List D} (l3:ts.length<=3) (hf:∀ u∈ts,Ft 3 40 u) {x:D} (hx:Ft 3 40 x):Th (wr ts x):=ge (by have:=lO ts (some 1) none; rw [zac]; omega) (flc hx fun u hu=>hf u (oK hu))
def no {F:D->D} {l:List D} (h:∀ x∈l,Th (F x)):∀ u∈l.map F,Th u:=fun u hu=>by
 obtain ⟨x,hx,rfl⟩:=zaz.mp hu;exact h x hx
def fw3 {z:Str} (h:(z.cps.toList.all fun c=>decide (c < 16 ^ 8))=true) (hl:z.cps.size<=10):Ft 3 40 (.str z):=(fw h hl).mono (by decide) (by decide)
def lcB (l:List D) (en:En):Option (List D × En):=lcF (gN 0) cY dk l [] en
def nu (l:List D) (en:En):lcF (gN 0) cY dk l [] en=lcB l en:=rfl
def qz {ts l:List D} {o:Option D} {Q:List D × En->Prop} (l3:ts.length<=3) (hl:l.length<=100) (h:∀ o',Q (l.map (wr ts),[o',some (.tuple ts)])):W (lcB l [o,some (.tuple ts)]) Q:=by
 refine fy (wr ts) (sz (by omega)) (fun x _=>?_) h
 have:=lO ts (some 1) none;simp only [dk,ws,wr];exact sz (by show 1+_<=_; omega)
def A6 (T:TOk ks) (O:TOk os) {p t:D} (hp:IsPen p) (ht:Pl t):W (dH [p,tD ks,tD os,t]) (fun r=>∃ us p',r=(.list us,[some p',none,none,none])/\us.length<=150/\(∀ u∈us,Th u)/\IsPen p'):=by
 obtain ⟨ts,rfl,l1,l3,hf⟩:=ht;have hf3:∀ u∈ts,Ft 3 40 u:=fun u hu=>(hf u hu).mono (by decide) (by decide);have cl:=fun lo hi=>lO ts lo hi;have cf:∀ lo hi,∀ u∈bK ts lo hi,Ft 3 40 u:=fun lo hi u hu=>hf3 u (oK hu);have n4:=T.n4;simp only [dH,iZ,ws,↓nu];refine qz l3 (by decide) fun o1=>?_;simp only [ws,↓nu];refine qz l3 (by decide) fun o2=>?_;simp only [ws,↓nu];have c1:=cl none (some (-1));have c2:=cl (some 1) none;refine ⟨by decide,sz (by show _+1<=_; omega),sz (by show _+1<=_; omega),sz (by show 22<=1000; decide),?_⟩;have fA:Ft 3 40 (.str "apart"):=fw3 (by decide +kernel) (by decide +kernel);have fT:Ft 3 40 (.tuple ts):=(Ft.tup l3 hf).mono (by decide) (by decide);have fL:Ft 3 40 (.list [.str "apart"]):=(Ft.list (L:=1) (by decide) (fl1 (fw (by decide +kernel) (by decide +kernel)))).mono (by decide) (by decide);have f0:Ft 3 40 (.int 0):=(fi (by decide) (by decide)).mono (by decide) (by decide);obtain ⟨U,hU,uL,uT⟩:∃ U,(List.map (wr ts) [PyData.str "long",.str "least",.str "often",.str "apart",.str "without",.str "begins",.str "ends",.str "not",.str "both",.str "either",.str "Long",.str ""]++List.map (wr ts) [PyData.none,.int 0,.bool true,.list [.str "apart"]]++[.tuple (bK ts none (some (-1))),.tuple (ts++[.int 0]),.tuple (ts++[.tuple ts]),.list ts,.tuple [.tuple ts],.tuple (bK ts (some 1) none)])=U/\U.length=22/\∀ u∈U,Th u:=by
  refine ⟨_,rfl,rfl,tap (tap (no fun x hx=>zb l3 hf3 ?_) (no fun x hx=>zb l3 hf3 ?_)) (tc (ge (by omega) (cf _ _)) (tc (ge (by rw [zae]; show _+1<=_; omega) (fap hf3 (fl1 f0))) (tc (ge (by rw [zae]; show _+1<=_; omega) (fap hf3 (fl1 fT))) (tc (zO (by omega) hf3) (tc (ge (by show 1<=10; decide) (fl1 fT)) (tc (ge (by omega) (cf _ _)) t0))))))⟩
  ·have:∀ x∈[PyData.str "long",.str "least",.str "often",.str "apart",.str "without",.str "begins",.str "ends",.str "not",.str "both",.str "either",.str "Long",.str ""],∃ z:Str,x=.str z/\(z.cps.toList.all fun c=>decide (c < 16 ^ 8))=true/\z.cps.size<=10:=by
    intro x hx;simp only [zay,zap,or_false] at hx;rcases hx with rfl | rfl | rfl | rfl | rfl | rfl | rfl | rfl | rfl | rfl | rfl | rfl <;> exact ⟨_,rfl,by decide +kernel,by decide +kernel⟩
   obtain ⟨z,rfl,h1,h2⟩:=this x hx;exact fw3 h1 h2
  ·simp only [zay,zap,or_false] at hx;rcases hx with rfl | rfl | rfl | rfl
   ·exact Ft.none.mono (by decide) (by decide)
   ·exact f0
   ·exact Ft.bool.mono (by decide) (by decide)
   ·exact fL
 rw [hU];clear hU;refine W.use (p6 (n:=13) hp (by decide)) ?_;rintro _ ⟨cs,p2,rfl,cl',nd,mem,hp2⟩;have ej:joinD "" [.tuple (ks.map .str)]=some (.str (sgs ks)):=fX T;simp only [ws,tD];refine mB (fun t=>!((sg t).all fun c=>decide (c∈aH ks))) (fun t=>t) (by rw [zad]; exact sz (by omega)) (fun t ht=>?_) (fun t ht _=>?_) fun o=>?_
 ·obtain ⟨c,hc,rfl⟩:=zaz.mp ht;simp only [ws,jq,ej];have e:cg (sgs ks) (mk1 c)=decide (c∈aH ks):=by
   rw [Bool.eq_iff_iff,D1,decide_eq_true_iff];exact Ao
  rw [e];show (_,_)=((![c].all fun c=>decide (c∈aH ks)),_);simp
 ·simp only [ws,jG]
 rw [List.map_id'];obtain ⟨x0,h1,h2⟩:∃ x∈cs,x ∉ aH ks:=by
  by_cases h:∀ x∈cs,x∈aH ks
  ·have:=on nd h
   have:=T.l12;omega
  ·simpa using h
 have hm:s1 x0∈(cs.map s1).filter fun t=>!((sg t).all fun c=>decide (c∈aH ks)):=List.mem_filter.mpr ⟨List.mem_map_of_mem h1,by
  show (![x0].all fun c=>decide (c∈aH ks))=true;simp [h2]⟩
 obtain ⟨t0',rest,hL⟩:∃ t0 rest,((cs.map s1).filter fun t=>!((sg t).all fun c=>decide (c∈aH ks)))=t0 :: rest:=by
  cases h:(cs.map s1).filter fun t=>!((sg t).all fun c=>decide (c∈aH ks)) with
  | nil=>rw [h] at hm; cases hm
  | cons a b=>exact ⟨a,b,rfl⟩
 have ht0:t0'∈cs.map s1:=(List.mem_filter.mp (by rw [hL]; exact zaq)).1;obtain ⟨x,hx,rfl⟩:=zaz.mp ht0;rw [hL];simp only [ws];have e13:(3:Int)=((3:Nat):Int):=rfl;refine W.use (m7 T (m:=3) hp2 (by decide) (by decide)) ?_;rintro _ ⟨z,p3,rfl,z1,z3,zm,hp3⟩;have zt:Tv 3 z:=⟨zm,z3⟩;have xt:Tv 1 (mk1 x):=Tv.one (mem x hx);have z7:Tv 21 (Txt.mul z 7):=zt.mul (m:=7) (by decide);have zl:=zt.len;have z7l:=z7.len;have zc:=(zt.cut none (some 1)).len;have m1:(mk1 x).length=1:=rfl;simp only [ws,tD,jh (z:=z) (by omega)];have cp:ik 10 30:=by unfold ik; decide
 refine ⟨cp,sz (by omega),⟨by omega,by decide,by decide⟩,sz (by omega),⟨by omega,by decide,by decide⟩,sz (by omega),sz (by omega),sz (by omega),?_⟩;refine W.of (show jP _=some (.dict [],_) from rfl) ?_;simp only [ws];refine ⟨sz (by show 27<=1000; decide),sz (by show 29<=1000; decide),⟨by decide,by decide,by omega,by omega⟩,?_⟩;have fn:∀ {n:Int},-1000<=n->n<=1000->Ft 3 40 (.int n):=fun a b=>(fi a b).mono (by decide) (by decide);have fb:∀ {b:Bool},Ft 3 40 (.bool b):=Ft.bool.mono (by decide) (by decide);obtain ⟨Z,hZ,zL,zF⟩:∃ Z,([PyData.none,.bool true,.bool false,.int 0,.int 1,.int 3,.int 4,.int 9,.int 10,.int 30,.int 31,.int (-1),.int (10 ^ Int.toNat 30),.int (ks.length:Nat),.str "",.str z,.str (z++mk1 x),.str " ",.str ⟨(dM (Txt.mul z 7).cps.toList none (some 6)).toArray⟩,.str ⟨(dM (Txt.mul z 7).cps.toList none (some 7)).toArray⟩,.str (z++⟨(dM z.cps.toList none (some 1)).toArray⟩),.list (List.map s1 (li z)),.tuple [.str z],.list [],.dict [],.tuple [],.tuple [.str "apart"],s1 x,.list [.str "apart"]]:List D)=Z/\Z.length=29/\∀ u∈Z,Ft 3 40 u:=by
  refine ⟨_,rfl,rfl,?_⟩;refine flc (Ft.none.mono (by decide) (by decide)) (flc fb (flc fb (flc f0 (flc (fn (by decide) (by decide)) (flc (fn (by decide) (by decide)) (flc (fn (by decide) (by decide)) (flc (fn (by decide) (by decide)) (flc (fn (by decide) (by decide)) (flc (fn (by decide) (by decide)) (flc (fn (by decide) (by decide)) (flc (fn (by decide) (by decide)) (flc ((Ft.int (by decide +kernel)).mono (by decide) (by decide)) (flc (fn (by omega) (by omega)) (flc (fw3 (by decide +kernel) (by decide +kernel)) (flc (zt.ft (by decide)) (flc ((zt.app xt).ft (by decide)) (flc (fw3 (by decide +kernel) (by decide +kernel)) ?_)))))))))))))))));refine flc ((z7.cut _ _).ft (by decide)) (flc ((z7.cut _ _).ft (by decide)) (flc ((zt.app (zt.cut _ _)).ft (by decide)) (flc ((Ft.list (L:=3) (d:=0) (b:=1) (by rw [zad]; exact z3) fun u hu=>?_).mono (by decide) (by decide)) (flc ((Ft.tup (L:=1) (d:=0) (b:=3) (zav _) (fl1 (gl zt.1 zt.2))).mono (by decide) (by decide)) (flc ((Ft.list (L:=0) (d:=0) (b:=1) (zav _) fl0).mono (by decide) (by decide)) (flc (Ft.dict.mono (by decide) (by decide)) (flc ((Ft.tup (L:=0) (d:=0) (b:=1) (zav _) fl0).mono (by decide) (by decide)) (flc ((Ft.tup (L:=1) (zav _) (fl1 (fw (by decide +kernel) (by decide +kernel)))).mono (by decide) (by decide)) (flc (xt.ft (by decide)) (fl1 fL))))))))));obtain ⟨c,hc,rfl⟩:=zaz.mp hu;exact gl (Tv.one (zm c hc)).1 (zav 1)
 rw [hZ];clear hZ;obtain ⟨k0,e0,kt,_⟩:=ks0 O;have hZ2:∀ u∈Z++[.str k0],Ft 3 40 u:=fap zF (fl1 (kt.ft (by decide)));have l30:(Z++[PyData.str k0]).length=30:=by rw [zae,zL]; rfl
 generalize PyData.list [PyData.str "long",.str "least",.str "often",.str "apart",.str "without",.str "begins",.str "ends",.str "not",.str "both",.str "either",.str "Long",.str ""]=ww;refine iO (fun i en=>∃ U a,en=[some p3,some (.tuple (ks.map .str)),some (.tuple (os.map .str)),some (.tuple ts),some ww,some (.list U),some (s1 x),some (.str z),some (.list Z),a]/\U.length=22+30 * i/\∀ u∈U,Th u) ⟨U,none,rfl,by omega,uT⟩ ?_ ?_
 ·rintro i t en ht ⟨V,a,rfl,vL,vT⟩;obtain ⟨hi,rfl⟩:=ek ht;simp only [ws,jD,e0];refine ⟨sz (by rw [zL]; show 30<=1000; decide),?_⟩;refine fy (fun u=>.tuple (bK ts none (some (1+(i:Int)))++[u]++bK ts (some (1+(i:Int)+1)) none)) (sz (by omega)) (fun u _=>?_) fun o'=>?_
  ·have b1:=cl none (some (1+(i:Int)));have b2:=cl (some (1+(i:Int)+1)) none;simp only [ws,jF];exact ⟨sz (by show _+1<=_; omega),sz (by rw [zae]; show _+1+_<=_; omega)⟩
  ·simp only [ws];refine ⟨sz (by rw [l30]; omega),_,_,rfl,by rw [zae,zad,l30]; omega,tap vT (no fun u hu=>?_)⟩;have b1:=cl none (some (1+(i:Int)));have b2:=cl (some (1+(i:Int)+1)) none;exact ge (by rw [zae,zae]; show _+1+_<=_; omega) (fap (fap (cf _ _) (fl1 (hZ2 u hu))) (cf _ _))
 ·rintro en ⟨V,a,rfl,vL,vT⟩;rw [cu] at vL;simp only [ws];exact ⟨V,p3,rfl,by omega,vT,hp3⟩
abbrev Tt (t:D):Prop:=Ft 60 8000 t
def ft1 {d a:Nat} {x:D} (hx:Ft d a x):Ft (d+1) (a+1) (.tuple [x]):=(Ft.tup (L:=1) (zav _) (fl1 hx)).mono (zav _) (by omega)
def ftl {d a:Nat} {x:D} (hx:Ft d a x):Ft (d+1) (a+1) (.list [x]):=(Ft.list (L:=1) (zav _) (fl1 hx)).mono (zav _) (by omega)
def ftn {ts:List D} {d b:Nat} (h:∀ u∈ts,Ft d 8000 u) (hb:PyData.bulkAll ts<=b):Ft (d+1) b (.tuple ts):=by
 obtain ⟨b1,b2,b3,b4,b5⟩:=Ft.all ts h;refine ⟨?_,?_,?_,?_,?_⟩
 ·rw [PyData.showable,b1]
 ·rw [PyData.depth]; omega
 ·rw [PyData.leavesShort,b3]
 ·rw [PyData.bulk]; exact hb
 ·rw [noX,b5]
def ft2 {d e a b:Nat} {x y:D} (hx:Ft d a x) (hy:Ft e b y) (h:a+b<=7000):Ft (max d e+1) (a+b+2) (.tuple [x,y]):=ftn (flc (hx.mono (Nat.le_max_left ..) (by omega)) (fl1 (hy.mono (Nat.le_max_right ..) (by omega)))) (by
 have:=hx.2.2.2.1
 have:=hy.2.2.2.1;simp only [PyData.bulkAll];omega)
def ft3 {d e f a b c:Nat} {x y z:D} (hx:Ft d a x) (hy:Ft e b y) (hz:Ft f c z) (h:a+b+c<=7000):Ft (max d (max e f)+1) (a+b+c+3) (.tuple [x,y,z]):=ftn (flc (hx.mono (Nat.le_max_left ..) (by omega)) (flc (hy.mono (zau (Nat.le_max_left ..) (Nat.le_max_right ..)) (by omega)) (fl1 (hz.mono (zau (Nat.le_max_right ..) (Nat.le_max_right ..)) (by omega))))) (by
 have:=hx.2.2.2.1
 have:=hy.2.2.2.1
 have:=hz.2.2.2.1;simp only [PyData.bulkAll];omega)
def ft4 {a:Nat} {x y:D} (hx:Ft 0 a x) (hy:Ft 1 33 y) (h:a<=7000):Ft 2 (a+103) (.tuple [x,y,y,y]):=ftn (flc (hx.mono (by decide) (by omega)) (flc (hy.mono (zav _) (by decide)) (flc (hy.mono (zav _) (by decide)) (fl1 (hy.mono (zav _) (by decide)))))) (by
 have:=hx.2.2.2.1
 have:=hy.2.2.2.1;simp only [PyData.bulkAll];omega)
def fA {d:Nat} {z:Str} (h:(z.cps.toList.all fun c=>decide (c < 16 ^ 8))=true/\z.cps.size<=10):Ft 0 10 (.str z):=fw h.1 h.2
def qf {t:D} (ht:Pl t):W (cK [t]) (fun r=>∃ us,r=(.list us,[none])/\us.length<=50/\∀ u∈us,Tt u):=by
 have hf:Ft 1 33 t:=ht.ft;have hn:Ft 0 10 (.str "not"):=fw (by decide +kernel) (by decide +kernel);have hb:Ft 0 10 (.str "both"):=fw (by decide +kernel) (by decide +kernel);have he:Ft 0 10 (.str "either"):=fw (by decide +kernel) (by decide +kernel);simp only [cK,gJ,ws];have S:∀ n:Nat,n<=100->n<=sizeLine:=fun n h=>sz (by omega);refine ⟨S _ (by show 5<=100; decide),S _ (by show 8<=100; decide),S _ (by show 9<=100; decide),by decide,?_⟩;refine iO (fun i en=>∃ x1 x2 x3 v o,en=[some t,x1,x2,x3,some v,o]/\x3=some (.list [.tuple [.str "not",.tuple [.str "not",.tuple [.str "not",t]]],.tuple [.str "not",.tuple [.str "not",.tuple [.str "not",.tuple [.str "not",t]]]],.tuple [.str "both",.tuple [.str "either",.tuple [.str "both",t,t],t],.tuple [.str "both",t,t]],.tuple [.str "both",.tuple [.str "either",.tuple [.str "both",t,t],t],.tuple [.str "either",t,.tuple [.str "not",t]]],.tuple [.str "both",.tuple [.str "not",.tuple [.str "either",.tuple [.str "both",t,t],t]],t],.tuple [.str "both",.tuple [.str "not",.tuple [.str "both",t,t]],.tuple [.str "not",.tuple [.str "not",.tuple [.str "both",t,t]]]],.tuple [.str "either",.tuple [.str "both",t,t],.tuple [.str "either",.tuple [.str "both",t,t],t]],.tuple [.str "both",.tuple [.str "either",.tuple [.str "both",t,t],t],.tuple [.str "either",.tuple [.str "both",t,t],t]],.tuple [.str "not",.tuple [.str "both",.tuple [.str "both",t,t],.tuple [.str "both",t,t]]]])/\Ft (1+i) (33+12 * i) v) ⟨_,_,_,t,none,rfl,rfl,hf⟩ ?_ ?_
 ·rintro i u en hu ⟨x1,x2,x3,v,o,rfl,e3,hv⟩;obtain ⟨hi,rfl⟩:=ek hu;have hi':i < 27:=hi;simp only [ws,iA];exact ⟨x1,x2,x3,_,_,rfl,e3,(ft2 hn hv (by omega)).mono (by omega) (by omega)⟩
 ·rintro en ⟨x1,x2,x3,v,o,rfl,rfl,hv⟩;rw [cu] at hv;have hv':Ft 28 357 v:=hv;simp only [ws];refine ⟨S _ (by show 14<=100; decide),S _ (by show 16<=100; decide),_,rfl,by show 16<=50; decide,?_⟩;have n1:=ft2 hn hf (by decide);have n3:=ft2 hn (ft2 hn n1 (by decide)) (by decide);have b1:=ft3 hb hf hf (by decide);have e1:=ft3 he b1 hf (by decide);have nb:=ft2 hn b1 (by decide);have m:∀ {d b:Nat} {u:D},Ft d b u->(decide (d<=60) && decide (b<=8000))=true->Ft 60 8000 u:=fun h k=>by
   rw [Bool.and_eq_true,decide_eq_true_iff,decide_eq_true_iff] at k;exact h.mono k.1 k.2
  exact flc (m n3 rfl) (flc (m (ft2 hn n3 (by decide)) rfl) (flc (m (ft3 hb e1 b1 (by decide)) rfl) (flc (m (ft3 hb e1 (ft3 he hf n1 (by decide)) (by decide)) rfl) (flc (m (ft3 hb (ft2 hn e1 (by decide)) hf (by decide)) rfl) (flc (m (ft3 hb nb (ft2 hn nb (by decide)) (by decide)) rfl) (flc (m (ft3 he b1 e1 (by decide)) rfl) (flc (m (ft3 hb e1 e1 (by decide)) rfl) (flc (m (ft2 hn (ft3 hb b1 b1 (by decide)) (by decide)) rfl) (flc (m (ft3 hn hf hf (by decide)) rfl) (flc (m (ft2 hb hf (by decide)) rfl) (flc (m (ft4 he hf (by decide)) rfl) (flc (m (ft1 hn) rfl) (flc (m (ft1 hb) rfl) (flc (m (ft2 hn (ftl hf) (by decide)) rfl) (fl1 (m hv' rfl))))))))))))))))
def tt3 {x y z:D} (hx:Ft 0 40 x) (hy:Ft 0 40 y) (hz:Ft 0 40 z):Tt (.tuple [x,y,z]):=(ft3 hx hy hz (by decide)).mono (by decide) (by decide)
def tt2 {x y:D} (hx:Ft 0 40 x) (hy:Ft 0 40 y):Tt (.tuple [x,y]):=(ft2 hx hy (by decide)).mono (by decide) (by decide)
def f40 {z:Str} (h:((z.cps.toList.all fun c=>decide (c < 16 ^ 8)) && decide (z.cps.size<=10))=true):Ft 0 40 (.str z):=by
 rw [Bool.and_eq_true,decide_eq_true_iff] at h;exact (fw h.1 h.2).mono (by decide) (by decide)
def i40 {n:Int} (h:(decide (-1000<=n) && decide (n<=1000))=true):Ft 0 40 (.int n):=by
 rw [Bool.and_eq_true,decide_eq_true_iff,decide_eq_true_iff] at h;exact (fi h.1 h.2).mono (by decide) (by decide)
def v40 {n:Nat} {z:Str} (h:Tv n z) (hn:n<=40):Ft 0 40 (.str z):=(gl h.1 h.2).mono (by decide) hn
def rj (T:TOk ks):W (cL [tD ks]) (fun r=>∃ us,r=(.list us,[none])/\us.length<=50/\∀ u∈us,Tt u):=by
 obtain ⟨k0,e0,kt,k1⟩:=ks0 T;have n1:=T.n1;have n4:=T.n4;obtain ⟨c,cr,ec⟩:∃ c cr,li k0=c :: cr:=by
  cases h:li k0 with
  | nil=>rw [h] at k1; simp at k1
  | cons c cr=>exact ⟨c,cr,rfl⟩
 have ea:atI (li k0) 0=some c:=by
  rw [ec];exact bc (c :: cr) 0
 have hc:Tv 1 (mk1 c):=Tv.one (kt.1 c (by rw [ec]; exact zaq));have ej:joinD "" [.tuple (ks.map .str)]=some (.str (sgs ks)):=fX T;have kl:=kt.len;simp only [cL,gK,ws,tD,e0,ea,ej];have S:∀ n:Nat,n<=100->n<=sizeLine:=fun n h=>sz (by omega);have cl:(mk1 c).length=1:=rfl;have mu:∀ k:Int,-(2 ^ 63)<=k->k<=4000->((mk1 c).length<=4000/\-(2 ^ 63)<=k/\k<=4000):=fun k a b=>⟨by omega,a,b⟩;refine ⟨sz (by omega),S _ (by show 11<=100; decide),S _ (by show 16<=100; decide),sz (by omega),mu _ (by decide) (by decide),S _ (by show 20<=100; decide),S _ (by show 23<=100; decide),mu _ (by decide) (by decide),mu _ (by decide) (by decide),mu _ (by decide) (by decide),S _ (by show 27<=100; decide),S _ (by show 28<=100; decide),_,rfl,by show 28<=50; decide,?_⟩;have llong:Ft 0 40 (.str "long"):=f40 (by decide +kernel);have lleast:Ft 0 40 (.str "least"):=f40 (by decide +kernel);have loften:Ft 0 40 (.str "often"):=f40 (by decide +kernel);have lwithout:Ft 0 40 (.str "without"):=f40 (by decide +kernel);have lapart:Ft 0 40 (.str "apart"):=f40 (by decide +kernel);have lbegins:Ft 0 40 (.str "begins"):=f40 (by decide +kernel);have lends:Ft 0 40 (.str "ends"):=f40 (by decide +kernel);have fE:Ft 0 40 (.str ""):=f40 (by decide +kernel);have fN:Ft 0 40 .none:=Ft.none.mono (by decide) (by decide);have fK1:Ft 0 40 (.int ((ks.length:Int) - 1)):=(fi (by omega) (by omega)).mono (by decide) (by decide);have fK2:Ft 0 40 (.int ((ks.length:Int) - 1+1)):=(fi (by omega) (by omega)).mono (by decide) (by decide);have fC:=v40 hc (by decide);have fCC:=v40 (hc.app hc) (by decide);have fM6:=v40 (hc.mul (m:=6) (by decide)) (by decide);have fM7:=v40 (hc.mul (m:=7) (by decide)) (by decide);have fS:Ft 0 40 (.str (sgs ks)):=v40 (n:=12) ⟨T.mem,T.l12⟩ (by decide);exact flc (tt3 llong (i40 rfl) (i40 rfl)) (flc (tt3 llong (i40 rfl) (i40 rfl)) (flc (tt3 llong (i40 rfl) fN) (flc (tt3 llong (i40 rfl) fN) (flc (tt3 llong (i40 rfl) (i40 rfl)) (flc (tt3 llong (i40 rfl) (i40 rfl)) (flc (tt3 llong (i40 rfl) (i40 rfl)) (flc (tt3 llong (i40 rfl) (i40 rfl)) (flc (tt3 llong (i40 rfl) (i40 rfl)) (flc (tt3 lleast fK1 (i40 rfl)) (flc (tt3 lleast fK2 (i40 rfl)) (flc (tt3 lleast (i40 rfl) (i40 rfl)) (flc (tt3 lleast (i40 rfl) (i40 rfl)) (flc (tt3 loften fC (i40 rfl)) (flc (tt3 loften fC (i40 rfl)) (flc (tt3 loften fC (i40 rfl)) (flc (tt3 loften fCC (i40 rfl)) (flc (tt3 loften fE (i40 rfl)) (flc (tt3 loften fC (i40 rfl)) (flc (tt2 lwithout fM6) (flc (tt2 lapart (i40 rfl)) (flc (tt3 lleast (i40 rfl) (i40 rfl)) (flc (tt3 llong (i40 rfl) fN) (flc (tt2 lwithout fM7) (flc (tt2 lbegins fM6) (flc (tt2 lends fM7) (flc (tt2 lends fE) (flc (tt3 loften fS (i40 rfl)) fl0)))))))))))))))))))))))))))
def Th.tt {t:D} (h:Th t):Tt t:=h.mono (by decide) (by decide)
def lV {l m:List D} (h:∀ u∈l,Tt u) (hs:∀ u∈m,Tt u):∀ u∈l++m,Tt u:=fun u hu=>(zax.mp hu).elim (h u) (hs u)
def DD {F:D->D} {l:List D} (h:∀ x∈l,Tt (F x)):∀ u∈l.map F,Tt u:=fun u hu=>by
 obtain ⟨x,hx,rfl⟩:=zaz.mp hu;exact h x hx
def AJ (T:TOk ks) (O:TOk os) {p x0 x1 x6:D} {x7 x8 x9 x10:Option D} {us:List D} {Q:Fl->Prop} (hp:IsPen p) (hl:us.length<=10000) (hu:∀ u∈us,Tt u)
  (hQ:∀ (p':D) (vs:List D) (y7 y8 y9:Option D),IsPen p'->vs.length<=us.length+1000->(∀ u∈vs,Tt u)->Q (.nx [some x0,some x1,some p',some (tD ks),some (tD os),some (.list vs),some x6,y7,y8,y9,x10])) :
  W (nS [some x0,some x1,some p,some (tD ks),some (tD os),some (.list us),some x6,x7,x8,x9,x10]) Q:=by
 simp only [nS,ws];refine W.use (fr T hp) ?_;rintro _ ⟨t,p1,rfl,ht,hp1⟩;simp only [ws];refine W.use (A6 T O hp1 ht) ?_;rintro _ ⟨bs,p2,rfl,bl,bt,hp2⟩;simp only [ws];refine W.use (ey T 6 3 hp2 (by decide) (by decide)) ?_;rintro _ ⟨g,p3,r,rfl,gt,hp3⟩;simp only [ws];refine W.use (fr O hp3) ?_;rintro _ ⟨t2,p4,rfl,ht2,hp4⟩;simp only [ws];refine ⟨szB (by show _+3<=_; omega),szB (by rw [zae]; show _+3+_<=_; omega),?_⟩;refine W.use (qf ht) ?_;rintro _ ⟨ss,rfl,sl,st⟩;have hb:Ft 0 10 (.str "both"):=fw (by decide +kernel) (by decide +kernel);have he:Ft 0 10 (.str "either"):=fw (by decide +kernel) (by decide +kernel);have hn:Ft 0 10 (.str "not"):=fw (by decide +kernel) (by decide +kernel);have gt':Ft 3 309 g:=gt;obtain ⟨A,hA,al,at'⟩:∃ A,us++[t,g,t2]++bs++ss=A/\A.length<=us.length+203/\∀ u∈A,Tt u:=by
  refine ⟨_,rfl,?_,lV (lV (lV hu (flc (ht.ft.mono (by decide) (by decide)) (flc (gt'.mono (by decide) (by decide)) (fl1 (ht2.ft.mono (by decide) (by decide)))))) fun u h=>(bt u h).tt) st⟩;rw [zae,zae,zae];show _+3+_+_<=_;omega
 simp only [ws,hA];have tb:∀ {z:Str} (_:Ft 0 10 (.str z)) (x:D),x∈bs->Tt (.tuple [.str z,g,x]):=fun h x hx=>(ft3 h gt' (bt x hx) (by decide)).mono (by decide) (by decide);have tb':∀ {z:Str} (_:Ft 0 10 (.str z)) (x:D),x∈bs->Tt (.tuple [.str z,x,g]):=fun h x hx=>(ft3 h (bt x hx) gt' (by decide)).mono (by decide) (by decide);have bz:bs.length<=sizeLine:=sz (by omega);refine ⟨?_,fy (fun x=>.tuple [.str "both",g,x]) bz (fun x _=>by simp only [ws,rF]) fun o1=>?_⟩
 ·rw [zae,zae];exact szB (by show _+3+_+_<=_; omega)
 simp only [ws];have gr:∀ (A:List D) (F:D->D) (n:Nat),A.length<=n->(∀ u∈A,Tt u)->(∀ x∈bs,Tt (F x))->∃ B,A++bs.map F=B/\B.length<=n+150/\∀ u∈B,Tt u:=fun A F n h1 h2 h3=>⟨_,rfl,by rw [zae,zad]; omega,lV h2 (DD h3)⟩;obtain ⟨B,hB,Bl,Bt⟩:=gr A (fun x=>.tuple [.str "both",g,x]) _ al at' fun x hx=>tb hb x hx;rw [hB];refine ⟨szB (by omega),fy (fun x=>.tuple [.str "both",x,g]) bz (fun x _=>by simp only [ws,rE]) fun o1=>?_⟩;obtain ⟨C,hC,Cl,Ct⟩:=gr B (fun x=>.tuple [.str "both",x,g]) _ Bl Bt fun x hx=>tb' hb x hx;simp only [ws,hC];refine ⟨szB (by omega),fy (fun x=>.tuple [.str "either",g,x]) bz (fun x _=>by simp only [ws,rD]) fun o1=>?_⟩;obtain ⟨E,hE,El,Et⟩:=gr C (fun x=>.tuple [.str "either",g,x]) _ Cl Ct fun x hx=>tb he x hx;simp only [ws,hE];refine ⟨szB (by omega),fy (fun x=>.tuple [.str "either",x,g]) bz (fun x _=>by simp only [ws,rC]) fun o1=>?_⟩;obtain ⟨F,hF,Fl',Ft'⟩:=gr E (fun x=>.tuple [.str "either",x,g]) _ El Et fun x hx=>tb' he x hx;simp only [ws,hF];refine ⟨szB (by omega),fy (fun x=>.tuple [.str "not",x]) bz (fun x _=>by simp only [ws,rB]) fun o1=>?_⟩;obtain ⟨G,hG,Gl,Gt⟩:=gr F (fun x=>.tuple [.str "not",x]) _ Fl' Ft' fun x hx=>(ft2 hn (bt x hx) (by decide)).mono (by decide) (by decide);simp only [ws,hG];exact ⟨szB (by omega),hQ p4 G _ _ _ hp4 (by omega) Gt⟩
def EV (T:TOk ks):Tt (tD ks):=(Ft.tup (L:=4) (d:=0) (b:=6) (by rw [zad]; exact T.n4) fun u hu=>by
 obtain ⟨k,hk,rfl⟩:=zaz.mp hu;exact gl (oQ T hk).1 (oQ T hk).2).mono (by decide) (by decide)
def cm2 {j:Int} (h0:0<=j) (h1:j<=1):CMul 2 j:=by
 have:j=0\/j=1:=by omega
 rcases this with rfl | rfl <;> (unfold CMul; decide)
def sL {ns:List Int} {j:Int} (h0:0<=j) (h1:j<=1) {x2 x3 x4 x5 x6 x7 x8 x9 x10:Option D} {Q:Fl->Prop} (hQ:∀ y2 y3 y4 y5 y6 y7 y8 y9 y10,Q (.nx [some (.list (ns.map .int)),some (.int j),y2,y3,y4,y5,y6,y7,y8,y9,y10])) :
  W (nR [some (.list (ns.map .int)),some (.int j),x2,x3,x4,x5,x6,x7,x8,x9,x10]) Q:=by
 have cm:=cm2 h0 h1;simp only [nR,ws];refine ⟨cm,zN (by omega) fun p hp=>?_⟩;simp only [ws];refine W.use (lZ hp) ?_;rintro _ ⟨ks,p1,rfl,T,hp1⟩;simp only [ws];refine ⟨cm,zN (by omega) fun q hq=>?_⟩;simp only [ws];refine W.use (lZ hq) ?_;rintro _ ⟨os,p2,rfl,O,hp2⟩;simp only [ws];refine W.of (show jP _=some (.dict [],_) from rfl) ?_;simp only [ws];refine W.use (rj T) ?_;rintro _ ⟨us,rfl,ul,ut⟩;simp only [ws];have fA:Ft 0 10 (.str "apart"):=fw (by decide +kernel) (by decide +kernel);have fL:Ft 1 0 (.list []):=Ft.list (L:=0) (d:=0) (b:=0) (zav _) fl0;have f0:Ft 1 0 (.tuple []):=Ft.tup (L:=0) (d:=0) (b:=0) (zav _) fl0;have m:∀ {d b:Nat} {u:D},Ft d b u->(decide (d<=60) && decide (b<=8000))=true->Ft 60 8000 u:=fun h k=>by
  rw [Bool.and_eq_true,decide_eq_true_iff,decide_eq_true_iff] at k;exact h.mono k.1 k.2
 obtain ⟨A,hA,al,at'⟩:∃ A,PyData.none :: .bool true :: .int 0 :: .str "apart" :: .list [] :: .tuple [] :: .dict [] :: .list [.str "apart"] :: tD ks :: .tuple [.tuple []] :: .tuple [.str "apart",.str "apart"] :: us=A/\A.length<=61/\∀ u∈A,Tt u:=by
  refine ⟨_,rfl,?_,flc (m Ft.none rfl) (flc (m Ft.bool rfl) (flc (m (fi (n:=0) (by decide) (by decide)) rfl) (flc (m fA rfl) (flc (m fL rfl) (flc (m f0 rfl) (flc (m Ft.dict rfl) (flc (m (ftl fA) rfl) (flc (EV T) (flc (m (ft1 f0) rfl) (flc (m (ft2 fA fA (by decide)) rfl) ut))))))))))⟩;simp only [zac];omega
 refine ⟨sz (by show 11+_<=_; omega),by decide,?_⟩;rw [hA];clear hA;refine iO (fun i en=>∃ (p:D) (vs:List D) (y6 y7 y8 y9:Option D),en=[some (.list (ns.map .int)),some (.int j),some p,some (tD ks),some (tD os),some (.list vs),y6,y7,y8,y9,x10]/\IsPen p/\vs.length<=61+1000 * i/\∀ u∈vs,Tt u) ⟨p1,A,_,_,_,_,rfl,hp1,by omega,at'⟩ ?_ ?_
 ·rintro i u en hu ⟨p,vs,y6,y7,y8,y9,rfl,g1,g2,g3⟩;obtain ⟨hi,rfl⟩:=ek hu;have hi':i < 3:=hi;simp only [ws];refine AJ T O g1 (by omega) g3 fun p' ws' z7 z8 z9 k1 k2 k3=>?_;simp only [ws];exact ⟨p',ws',_,_,_,_,rfl,k1,by omega,k3⟩
 ·rintro en ⟨p,vs,y6,y7,y8,y9,rfl,g1,g2,g3⟩;rw [cu] at g2;have g2:vs.length<=3061:=g2;simp only [ws];refine ⟨by decide,sT (fun i us en=>∃ (o:Option D) (p:D),en=[o,some p,some (tD ks)]/\us.length=i/\IsPen p/\∀ u∈us,Tt u) (by decide) ⟨none,p,rfl,rfl,g1,fl0⟩ ?_ ?_⟩
  ·rintro i u us en hu _ ⟨o,p,rfl,h2,h3,h4⟩;obtain ⟨hi,rfl⟩:=ek hu;have hi':i < 4:=hi;simp only [ws,rA];refine W.use (ey T 6 4 h3 (by decide) (by decide)) ?_;rintro _ ⟨g,p3,r,rfl,gt,hp3⟩;have gt':Ft 4 930 g:=gt;simp only [ws];exact ⟨_,p3,rfl,by rw [zae,h2]; rfl,hp3,lV h4 (fl1 (gt'.mono (by decide) (by decide)))⟩
  ·rintro us en _ ⟨o,p,rfl,h2,h3,h4⟩;rw [cu] at h2;have h2:us.length=4:=h2;simp only [ws];refine ⟨szB (by omega),?_⟩;have hv:=lV g3 h4;refine rm (fun en=>∃ y10,en=[some (.list (ns.map .int)),some (.int j),some p,some (tD ks),some (tD os),some (.list (vs++us)),y6,y7,y8,y9,y10]) ⟨_,rfl⟩ (fun t ht en hJ=>?_) fun en hJ=>?_
   ·obtain ⟨y10,rfl⟩:=hJ;simp only [ws,rn];refine W.use (pq T (hv t ht)) ?_;rintro _ rfl;simp only [ws];exact ⟨_,rfl⟩
   ·obtain ⟨y10,rfl⟩:=hJ;exact hQ _ _ _ _ _ _ _ _ _
def r8:DH pZ:=by
 intro ns hn
 suffices W (pZ [.list (ns.map .int)]) (fun r=>∃ o,r=(.bool true,o)) by
  obtain ⟨_,e,o,rfl⟩:=this.ex;exact ⟨o,e⟩
 simp only [ws,pZ,sX];refine ⟨by decide,?_⟩;refine iO (fun i en=>∃ x1 x2 x3 x4 x5 x6 x7 x8 x9 x10,en=[some (.list (ns.map .int)),x1,x2,x3,x4,x5,x6,x7,x8,x9,x10]) ⟨_,_,_,_,_,_,_,_,_,_,rfl⟩ (fun i t en ht hJ=>?_) fun en hJ=>?_
 ·obtain ⟨x1,x2,x3,x4,x5,x6,x7,x8,x9,x10,rfl⟩:=hJ;obtain ⟨hi,rfl⟩:=ek ht;have hi':i < 2:=hi;simp only [ws];refine sL (by omega) (by omega) fun y2 y3 y4 y5 y6 y7 y8 y9 y10=>?_;simp only [ws];exact ⟨_,_,_,_,_,_,_,_,_,_,rfl⟩
 ·obtain ⟨x1,x2,x3,x4,x5,x6,x7,x8,x9,x10,rfl⟩:=hJ;simp only [ws];exact ⟨_,rfl⟩
end
end W04
set_option maxHeartbeats 4000000
namespace W04
open PySem L2
def dY {α β:Type} {us:List α} {x0:β} (h:us.length=[x0].length):∃ a0,us=[a0]:=by
 cases us with
 | nil=>cases h
 | cons a0 r=>exact ⟨a0,by rw [za6.mp (show r.length=0 from Nat.succ.inj h)]⟩
def eV {α β:Type} {us:List α} {x0 x1:β} (h:us.length=[x0,x1].length):∃ a0 a1,us=[a0,a1]:=by
 cases us with
 | nil=>cases h
 | cons a0 r=>obtain ⟨a1,rfl⟩:=dY (us:=r) (x0:=x1) (Nat.succ.inj h); exact ⟨a0,a1,rfl⟩
def cP {α β:Type} {us:List α} {x0 x1 x2:β} (h:us.length=[x0,x1,x2].length):∃ a0 a1 a2,us=[a0,a1,a2]:=by
 cases us with
 | nil=>cases h
 | cons a0 r=>obtain ⟨a1,a2,rfl⟩:=eV (us:=r) (x0:=x1) (x1:=x2) (Nat.succ.inj h); exact ⟨a0,a1,a2,rfl⟩
def ji {α β:Type} {us:List α} {x0 x1 x2 x3:β} (h:us.length=[x0,x1,x2,x3].length):∃ a0 a1 a2 a3,us=[a0,a1,a2,a3]:=by
 cases us with
 | nil=>cases h
 | cons a0 r=>obtain ⟨a1,a2,a3,rfl⟩:=cP (us:=r) (x0:=x1) (x1:=x2) (x2:=x3) (Nat.succ.inj h); exact ⟨a0,a1,a2,a3,rfl⟩
def all_mk {l:PySem.W.OpenLaw} {w:World} {K:PySem.W.Frag} {h:Heap} {mg:Str->Option Value} {fa f0 f1 f2 f3 f4 f5 f6 f7 f8 f9 f10 f11 f12 f13 f14 f15 f16 f17 f18 f19 f20 f21 f22 f23 f24 f25 f26 f27 f28:Addr} {tk0:Tok} {tk1:Tok} {tk2:Tok} {tk3:Tok} {tk4:Tok} {tk5:Tok} {tk6:Tok} {tk7:Tok} (X:K.In h) (G:h.Ns mainGlobals mg) (hfa:mg "law"=some (.ref fa))
  (d0:Df K "are_unlike" ib f0)
  (d1:Df K "signs_of" jr f1)
  (d2:Df K "is_word" iP f2)
  (d3:Df K "is_whole" jt f3)
  (d4:Df K "is_whole_within" dZ f4)
  (d5:Df K "how_many_parts" eL f5)
  (d6:Df K "is_low_and_high" ee f6)
  (d7:Df K "is_told_word" fI f7)
  (d8:Df K "is_often_signs" eK f8)
  (d9:Df K "is_simple" iQ f9)
  (d10:Df K "is_formed" fW f10)
  (d11:Df K "sentences_in" dW f11)
  (d12:Df K "is_sentence" gp f12)
  (d13:Df K "_law_pen" ju f13)
  (d14:Df K "_law_draw" iU f14)
  (d15:Df K "_law_unlike" eP f15)
  (d16:Df K "_law_tongue" gq f16)
  (d17:Df K "_law_piece" fj f17)
  (d18:Df K "_law_plain" fh f18)
  (d19:Df K "_law_nested" gw f19)
  (d20:Df K "_law_whole" ic f20)
  (d21:Df K "_law_text" iS f21)
  (d22:Df K "_law_is_plain" dE f22)
  (d23:Df K "_law_size" iT f23)
  (d24:Df K "_law_bent" cT f24)
  (d25:Df K "_law_shapes" gu f25)
  (d26:Df K "_law_bounds" gx f26)
  (d27:Df K "_law_told" iR f27)
  (d28:Df K "law" e9 f28)
  (y0:PySem.W.nsIn K mainGlobals "MOST_SIGNS_OF_A_WORD"=some (some (.int 60 tk0)))
  (y1:PySem.W.nsIn K mainGlobals "HIGHEST_LENGTH"=some (some (.int 30 tk1)))
  (y2:PySem.W.nsIn K mainGlobals "MOST_SIGNS_TOLD"=some (some (.int 6 tk2)))
  (y3:PySem.W.nsIn K mainGlobals "MOST_OFTEN_SIGNS"=some (some (.int 4 tk3)))
  (y4:PySem.W.nsIn K mainGlobals "HIGHEST_LEAST"=some (some (.int 9 tk4)))
  (y5:PySem.W.nsIn K mainGlobals "HIGHEST_OFTEN"=some (some (.int 3 tk5)))
  (y6:PySem.W.nsIn K mainGlobals "MOST_DEEP"=some (some (.int 4 tk6)))
  (y7:PySem.W.nsIn K mainGlobals "MOST_SENTENCES_IN_ONE"=some (some (.int 9 tk7)))
  (z0:PySem.W.nsIn K mainGlobals "abs"=some none)
  (z1:PySem.W.nsIn K mainGlobals "all"=some none)
  (z2:PySem.W.nsIn K mainGlobals "bool"=some none)
  (z3:PySem.W.nsIn K mainGlobals "int"=some none)
  (z4:PySem.W.nsIn K mainGlobals "isinstance"=some none)
  (z5:PySem.W.nsIn K mainGlobals "len"=some none)
  (z6:PySem.W.nsIn K mainGlobals "list"=some none)
  (z7:PySem.W.nsIn K mainGlobals "min"=some none)
  (z8:PySem.W.nsIn K mainGlobals "range"=some none)
  (z9:PySem.W.nsIn K mainGlobals "repr"=some none)
  (z10:PySem.W.nsIn K mainGlobals "set"=some none)
  (z11:PySem.W.nsIn K mainGlobals "str"=some none)
  (z12:PySem.W.nsIn K mainGlobals "sum"=some none)
  (z13:PySem.W.nsIn K mainGlobals "tuple"=some none) :
  ∃ fd:FuncData,(∀ (s:Shared) (v:Value),BindsTo s fd ⟨[v],[]⟩ [("_law_script",v)])/\∀ base:Heap,K.In base->base.Ns mainGlobals mg->FnOk l.prog w K mg base CX0 13 fa fd ["_law_script"] (kI K):=by
 have e:=hfa.symm.trans (za8 X G d28.a);cases e;have v0:=za8 X G y0;have v1:=za8 X G y1;have v2:=za8 X G y2;have v3:=za8 X G y3;have v4:=za8 X G y4;have v5:=za8 X G y5;have v6:=za8 X G y6;have v7:=za8 X G y7;have T:Bl mg:=⟨za7 X G z0,za7 X G z1,za7 X G z2,za7 X G z3,za7 X G z4,za7 X G z5,za7 X G z6,za7 X G z7,za7 X G z8,za7 X G z9,za7 X G z10,za7 X G z11,za7 X G z12,za7 X G z13⟩;obtain ⟨oc,od,kV,dc,pm,an,cd,ct,sl,ll,lc⟩:=d28.l;have FL:=nB (st:=e9) ll lc d28.k;refine ⟨PySem.W.fnOf "law" "law" (dD e9) (cH e9) (ap e9) .none kV dc pm an cd ct,fun s v=>.of_eq rfl,fun base _ _=>?_⟩;have g0:Kn l.prog w K mg base 1 "are_unlike" ["signs"] (spF K [0] 3 c7):=d0.kn X G (fun _ _ _ _ _ _ us hl=>by obtain ⟨a0,rfl⟩:=dY hl; rfl) fun _ F=>na (k:=0) T     F;have g1:Kn l.prog w K mg base 1 "signs_of" ["tongue"] (spF K [0] 3 eD):=d1.kn X G (fun _ _ _ _ _ _ us hl=>by obtain ⟨a0,rfl⟩:=dY hl; rfl) fun _ F=>ph (k:=0) T     F;have g2:Kn l.prog w K mg base 2 "is_word" ["tongue", "thing"] (spF K [0,0] 3 bP):=d2.kn X G (fun _ _ _ _ _ _ us hl=>by obtain ⟨a0,a1,rfl⟩:=eV hl; rfl) fun _ F=>qo (k:=1) T v0 (g1.mono (by decide))   F;have g3:Kn l.prog w K mg base 1 "is_whole" ["thing"] (spF K [0] 3 cA):=d3.kn X G (fun _ _ _ _ _ _ us hl=>by obtain ⟨a0,rfl⟩:=dY hl; rfl) fun _ F=>pi (k:=0) T     F;have g4:Kn l.prog w K mg base 2 "is_whole_within" ["thing", "low", "high"] (spF K [0,0,0] 3 aJ):=d4.kn X G (fun _ _ _ _ _ _ us hl=>by obtain ⟨a0,a1,a2,rfl⟩:=cP hl; rfl) fun _ F=>jT (k:=1) T  (g3.mono (by decide))   F;have g5:Kn l.prog w K mg base 1 "how_many_parts" ["head"] (spF K [0] 3 aK):=d5.kn X G (fun _ _ _ _ _ _ us hl=>by obtain ⟨a0,rfl⟩:=dY hl; rfl) fun _ F=>ki (k:=0) T     F;have g6:Kn l.prog w K mg base 3 "is_low_and_high" ["low", "high"] (spF K [0,0] 3 bQ):=d6.kn X G (fun _ _ _ _ _ _ us hl=>by obtain ⟨a0,a1,rfl⟩:=eV hl; rfl) fun _ F=>jU (k:=2) T v1 (g4.mono (by decide))   F;have g7:Kn l.prog w K mg base 3 "is_told_word" ["tongue", "thing"] (spF K [0,0] 3 a9):=d7.kn X G (fun _ _ _ _ _ _ us hl=>by obtain ⟨a0,a1,rfl⟩:=eV hl; rfl) fun _ F=>lH (k:=2) T v2 (g2.mono (by decide))   F;have g8:Kn l.prog w K mg base 3 "is_often_signs" ["tongue", "thing"] (spF K [0,0] 3 be):=d8.kn X G (fun _ _ _ _ _ _ us hl=>by obtain ⟨a0,a1,rfl⟩:=eV hl; rfl) fun _ F=>kh (k:=2) T v3 (g2.mono (by decide)) (g0.mono (by decide))   F;have g9:Kn l.prog w K mg base 4 "is_simple" ["tongue", "thing"] (spF K [0,0] 3 au):=d9.kn X G (fun _ _ _ _ _ _ us hl=>by obtain ⟨a0,a1,rfl⟩:=eV hl; rfl) fun _ F=>nX (k:=3) T v4 v5 (g6.mono (by decide)) (g7.mono (by decide)) (g4.mono (by decide)) (g8.mono (by decide))   F;have g10r0:Kn l.prog w K mg base 4 "is_formed" ["tongue", "thing", "deep"] (spF K [0,0,0] 3 (bn 0)):=d10.none X G (fun _ _ _ _ _ _ us hl=>by obtain ⟨a0,a1,a2,rfl⟩:=cP hl; rfl);have g10r1:Kn l.prog w K mg base 5 "is_formed" ["tongue", "thing", "deep"] (spF K [0,0,0] 3 (bn 1)):=d10.kn X G (fun _ _ _ _ _ _ us hl=>by obtain ⟨a0,a1,a2,rfl⟩:=cP hl; rfl) fun _ F=>cW (k:=4) T  (g5.mono (by decide)) (g9.mono (by decide)) g10r0 F;have g10r2:Kn l.prog w K mg base 6 "is_formed" ["tongue", "thing", "deep"] (spF K [0,0,0] 3 (bn 2)):=d10.kn X G (fun _ _ _ _ _ _ us hl=>by obtain ⟨a0,a1,a2,rfl⟩:=cP hl; rfl) fun _ F=>cW (k:=5) T  (g5.mono (by decide)) (g9.mono (by decide)) g10r1 F;have g10r3:Kn l.prog w K mg base 7 "is_formed" ["tongue", "thing", "deep"] (spF K [0,0,0] 3 (bn 3)):=d10.kn X G (fun _ _ _ _ _ _ us hl=>by obtain ⟨a0,a1,a2,rfl⟩:=cP hl; rfl) fun _ F=>cW (k:=6) T  (g5.mono (by decide)) (g9.mono (by decide)) g10r2 F;have g10r4:Kn l.prog w K mg base 8 "is_formed" ["tongue", "thing", "deep"] (spF K [0,0,0] 3 (bn 4)):=d10.kn X G (fun _ _ _ _ _ _ us hl=>by obtain ⟨a0,a1,a2,rfl⟩:=cP hl; rfl) fun _ F=>cW (k:=7) T  (g5.mono (by decide)) (g9.mono (by decide)) g10r3 F;have g10r5:Kn l.prog w K mg base 9 "is_formed" ["tongue", "thing", "deep"] (spF K [0,0,0] 3 (bn 5)):=d10.kn X G (fun _ _ _ _ _ _ us hl=>by obtain ⟨a0,a1,a2,rfl⟩:=cP hl; rfl) fun _ F=>cW (k:=8) T  (g5.mono (by decide)) (g9.mono (by decide)) g10r4 F;have g10:Kn l.prog w K mg base 10 "is_formed" ["tongue", "thing", "deep"] (spF K [0,0,0] 3 (bn 6)):=d10.kn X G (fun _ _ _ _ _ _ us hl=>by obtain ⟨a0,a1,a2,rfl⟩:=cP hl; rfl) fun _ F=>cW (k:=9) T  (g5.mono (by decide)) (g9.mono (by decide)) g10r5 F;have g11r0:Kn l.prog w K mg base 1 "sentences_in" ["sentence"] (spF K [0] 3 (aX 0)):=d11.none X G (fun _ _ _ _ _ _ us hl=>by obtain ⟨a0,rfl⟩:=dY hl; rfl);have g11r1:Kn l.prog w K mg base 2 "sentences_in" ["sentence"] (spF K [0] 3 (aX 1)):=d11.kn X G (fun _ _ _ _ _ _ us hl=>by obtain ⟨a0,rfl⟩:=dY hl; rfl) fun _ F=>ca (k:=1) T  (g5.mono (by decide)) g11r0 F;have g11r2:Kn l.prog w K mg base 3 "sentences_in" ["sentence"] (spF K [0] 3 (aX 2)):=d11.kn X G (fun _ _ _ _ _ _ us hl=>by obtain ⟨a0,rfl⟩:=dY hl; rfl) fun _ F=>ca (k:=2) T  (g5.mono (by decide)) g11r1 F;have g11r3:Kn l.prog w K mg base 4 "sentences_in" ["sentence"] (spF K [0] 3 (aX 3)):=d11.kn X G (fun _ _ _ _ _ _ us hl=>by obtain ⟨a0,rfl⟩:=dY hl; rfl) fun _ F=>ca (k:=3) T  (g5.mono (by decide)) g11r2 F;have g11r4:Kn l.prog w K mg base 5 "sentences_in" ["sentence"] (spF K [0] 3 (aX 4)):=d11.kn X G (fun _ _ _ _ _ _ us hl=>by obtain ⟨a0,rfl⟩:=dY hl; rfl) fun _ F=>ca (k:=4) T  (g5.mono (by decide)) g11r3 F;have g11r5:Kn l.prog w K mg base 6 "sentences_in" ["sentence"] (spF K [0] 3 (aX 5)):=d11.kn X G (fun _ _ _ _ _ _ us hl=>by obtain ⟨a0,rfl⟩:=dY hl; rfl) fun _ F=>ca (k:=5) T  (g5.mono (by decide)) g11r4 F;have g11:Kn l.prog w K mg base 7 "sentences_in" ["sentence"] (spF K [0] 3 (aX 6)):=d11.kn X G (fun _ _ _ _ _ _ us hl=>by obtain ⟨a0,rfl⟩:=dY hl; rfl) fun _ F=>ca (k:=6) T  (g5.mono (by decide)) g11r5 F;have g12:Kn l.prog w K mg base 11 "is_sentence" ["tongue", "thing"] (spF K [0,0] 3 cJ):=d12.kn X G (fun _ _ _ _ _ _ us hl=>by obtain ⟨a0,a1,rfl⟩:=eV hl; rfl) fun _ F=>mH (k:=10) T v6 v7 (g10.mono (by decide)) (g11.mono (by decide))   F;have g13:Kn l.prog w K mg base 1 "_law_pen" ["_law_script", "_law_k"] (spF K [0,0] 3 F_law_pen):=d13.kn X G (fun _ _ _ _ _ _ us hl=>by obtain ⟨a0,a1,rfl⟩:=eV hl; rfl) fun _ F=>pj (k:=0) T     F;have g14:Kn l.prog w K mg base 1 "_law_draw" ["_law_pen_here", "_law_many"] (spF K [1,0] 0 F_law_draw):=d14.kn X G (fun _ _ _ _ _ _ us hl=>by obtain ⟨a0,a1,rfl⟩:=eV hl; rfl) fun _ F=>n6 (k:=0) T     F;have g15:Kn l.prog w K mg base 2 "_law_unlike" ["_law_pen_here", "_law_many"] (spF K [1,0] 1 bS):=d15.kn X G (fun _ _ _ _ _ _ us hl=>by obtain ⟨a0,a1,rfl⟩:=eV hl; rfl) fun _ F=>mI (k:=1) T  (g14.mono (by decide))   F;have g16:Kn l.prog w K mg base 3 "_law_tongue" ["_law_pen_here"] (spF K [1] 0 cq):=d16.kn X G (fun _ _ _ _ _ _ us hl=>by obtain ⟨a0,rfl⟩:=dY hl; rfl) fun _ F=>mJ (k:=2) T  (g14.mono (by decide)) (g15.mono (by decide))   F;have g17:Kn l.prog w K mg base 2 "_law_piece" ["_law_pen_here", "_law_tongue_here", "_law_most"] (spF K [1,0,0] 3 b9):=d17.kn X G (fun _ _ _ _ _ _ us hl=>by obtain ⟨a0,a1,a2,rfl⟩:=cP hl; rfl) fun _ F=>nh (k:=1) T  (g14.mono (by decide))   F;have g18:Kn l.prog w K mg base 3 "_law_plain" ["_law_pen_here", "_law_tongue_here"] (spF K [1,0] 0 bR):=d18.kn X G (fun _ _ _ _ _ _ us hl=>by obtain ⟨a0,a1,rfl⟩:=eV hl; rfl) fun _ F=>ng (k:=2) T  (g14.mono (by decide)) (g17.mono (by decide))   F;have g19r0:Kn l.prog w K mg base 3 "_law_nested" ["_law_pen_here", "_law_tongue_here", "_law_deep", "_law_room"] (spF K [1,0,0,1] 0 (aY 0)):=d19.none X G (fun _ _ _ _ _ _ us hl=>by obtain ⟨a0,a1,a2,a3,rfl⟩:=ji hl; rfl);have g19r1:Kn l.prog w K mg base 4 "_law_nested" ["_law_pen_here", "_law_tongue_here", "_law_deep", "_law_room"] (spF K [1,0,0,1] 0 (aY 1)):=d19.kn X G (fun _ _ _ _ _ _ us hl=>by obtain ⟨a0,a1,a2,a3,rfl⟩:=ji hl; rfl) fun _ F=>cv (k:=3) T  (g14.mono (by decide)) g19r0 (g18.mono (by decide)) F;have g19r2:Kn l.prog w K mg base 5 "_law_nested" ["_law_pen_here", "_law_tongue_here", "_law_deep", "_law_room"] (spF K [1,0,0,1] 0 (aY 2)):=d19.kn X G (fun _ _ _ _ _ _ us hl=>by obtain ⟨a0,a1,a2,a3,rfl⟩:=ji hl; rfl) fun _ F=>cv (k:=4) T  (g14.mono (by decide)) g19r1 (g18.mono (by decide)) F;have g19r3:Kn l.prog w K mg base 6 "_law_nested" ["_law_pen_here", "_law_tongue_here", "_law_deep", "_law_room"] (spF K [1,0,0,1] 0 (aY 3)):=d19.kn X G (fun _ _ _ _ _ _ us hl=>by obtain ⟨a0,a1,a2,a3,rfl⟩:=ji hl; rfl) fun _ F=>cv (k:=5) T  (g14.mono (by decide)) g19r2 (g18.mono (by decide)) F;have g19r4:Kn l.prog w K mg base 7 "_law_nested" ["_law_pen_here", "_law_tongue_here", "_law_deep", "_law_room"] (spF K [1,0,0,1] 0 (aY 4)):=d19.kn X G (fun _ _ _ _ _ _ us hl=>by obtain ⟨a0,a1,a2,a3,rfl⟩:=ji hl; rfl) fun _ F=>cv (k:=6) T  (g14.mono (by decide)) g19r3 (g18.mono (by decide)) F;have g19r5:Kn l.prog w K mg base 8 "_law_nested" ["_law_pen_here", "_law_tongue_here", "_law_deep", "_law_room"] (spF K [1,0,0,1] 0 (aY 5)):=d19.kn X G (fun _ _ _ _ _ _ us hl=>by obtain ⟨a0,a1,a2,a3,rfl⟩:=ji hl; rfl) fun _ F=>cv (k:=7) T  (g14.mono (by decide)) g19r4 (g18.mono (by decide)) F;have g19:Kn l.prog w K mg base 9 "_law_nested" ["_law_pen_here", "_law_tongue_here", "_law_deep", "_law_room"] (spF K [1,0,0,1] 0 (aY 6)):=d19.kn X G (fun _ _ _ _ _ _ us hl=>by obtain ⟨a0,a1,a2,a3,rfl⟩:=ji hl; rfl) fun _ F=>cv (k:=8) T  (g14.mono (by decide)) g19r5 (g18.mono (by decide)) F;have g20:Kn l.prog w K mg base 1 "_law_whole" ["_law_thing", "_law_low", "_law_high"] (spF K [0,0,0] 3 aZ):=d20.kn X G (fun _ _ _ _ _ _ us hl=>by obtain ⟨a0,a1,a2,rfl⟩:=cP hl; rfl) fun _ F=>nc (k:=0) T     F;have g21:Kn l.prog w K mg base 1 "_law_text" ["_law_tongue_here", "_law_thing", "_law_most"] (spF K [0,0,0] 3 bf):=d21.kn X G (fun _ _ _ _ _ _ us hl=>by obtain ⟨a0,a1,a2,rfl⟩:=cP hl; rfl) fun _ F=>nZ (k:=0) T     F;have g22:Kn l.prog w K mg base 2 "_law_is_plain" ["_law_tongue_here", "_law_thing"] (spF K [0,0] 3 am):=d22.kn X G (fun _ _ _ _ _ _ us hl=>by obtain ⟨a0,a1,rfl⟩:=eV hl; rfl) fun _ F=>kP (k:=1) T  (g21.mono (by decide)) (g20.mono (by decide))   F;have g23r0:Kn l.prog w K mg base 2 "_law_size" ["_law_tongue_here", "_law_thing", "_law_deep"] (spF K [0,0,0] 3 (bo 0)):=d23.none X G (fun _ _ _ _ _ _ us hl=>by obtain ⟨a0,a1,a2,rfl⟩:=cP hl; rfl);have g23r1:Kn l.prog w K mg base 3 "_law_size" ["_law_tongue_here", "_law_thing", "_law_deep"] (spF K [0,0,0] 3 (bo 1)):=d23.kn X G (fun _ _ _ _ _ _ us hl=>by obtain ⟨a0,a1,a2,rfl⟩:=cP hl; rfl) fun _ F=>cZ (k:=2) T  (g22.mono (by decide)) g23r0 F;have g23r2:Kn l.prog w K mg base 4 "_law_size" ["_law_tongue_here", "_law_thing", "_law_deep"] (spF K [0,0,0] 3 (bo 2)):=d23.kn X G (fun _ _ _ _ _ _ us hl=>by obtain ⟨a0,a1,a2,rfl⟩:=cP hl; rfl) fun _ F=>cZ (k:=3) T  (g22.mono (by decide)) g23r1 F;have g23r3:Kn l.prog w K mg base 5 "_law_size" ["_law_tongue_here", "_law_thing", "_law_deep"] (spF K [0,0,0] 3 (bo 3)):=d23.kn X G (fun _ _ _ _ _ _ us hl=>by obtain ⟨a0,a1,a2,rfl⟩:=cP hl; rfl) fun _ F=>cZ (k:=4) T  (g22.mono (by decide)) g23r2 F;have g23r4:Kn l.prog w K mg base 6 "_law_size" ["_law_tongue_here", "_law_thing", "_law_deep"] (spF K [0,0,0] 3 (bo 4)):=d23.kn X G (fun _ _ _ _ _ _ us hl=>by obtain ⟨a0,a1,a2,rfl⟩:=cP hl; rfl) fun _ F=>cZ (k:=5) T  (g22.mono (by decide)) g23r3 F;have g23r5:Kn l.prog w K mg base 7 "_law_size" ["_law_tongue_here", "_law_thing", "_law_deep"] (spF K [0,0,0] 3 (bo 5)):=d23.kn X G (fun _ _ _ _ _ _ us hl=>by obtain ⟨a0,a1,a2,rfl⟩:=cP hl; rfl) fun _ F=>cZ (k:=6) T  (g22.mono (by decide)) g23r4 F;have g23:Kn l.prog w K mg base 8 "_law_size" ["_law_tongue_here", "_law_thing", "_law_deep"] (spF K [0,0,0] 3 (bo 6)):=d23.kn X G (fun _ _ _ _ _ _ us hl=>by obtain ⟨a0,a1,a2,rfl⟩:=cP hl; rfl) fun _ F=>cZ (k:=7) T  (g22.mono (by decide)) g23r5 F;have g24:Kn l.prog w K mg base 3 "_law_bent" ["_law_pen_here", "_law_tongue_here", "_law_other", "_law_sentence"] (spF K [1,0,0,0] 0 dH):=d24.kn X G (fun _ _ _ _ _ _ us hl=>by obtain ⟨a0,a1,a2,a3,rfl⟩:=ji hl; rfl) fun _ F=>n8 (k:=2) T  (g17.mono (by decide)) (g15.mono (by decide))   F;have g25:Kn l.prog w K mg base 1 "_law_shapes" ["_law_one"] (spF K [0] 1 cK):=d25.kn X G (fun _ _ _ _ _ _ us hl=>by obtain ⟨a0,rfl⟩:=dY hl; rfl) fun _ F=>mK (k:=0) T     F;have g26:Kn l.prog w K mg base 1 "_law_bounds" ["_law_tongue_here"] (spF K [0] 1 cL):=d26.kn X G (fun _ _ _ _ _ _ us hl=>by obtain ⟨a0,rfl⟩:=dY hl; rfl) fun _ F=>mL (k:=0) T     F;have g27:Kn l.prog w K mg base 12 "_law_told" ["_law_tongue_here", "_law_thing"] (spF K [0,0] 3 dG):=d27.kn X G (fun _ _ _ _ _ _ us hl=>by obtain ⟨a0,a1,rfl⟩:=eV hl; rfl) fun _ F=>nY (k:=11) T  (g23.mono (by decide)) (g12.mono (by decide))   F;exact (Fg (k:=12) T  (g13.mono (by decide)) (g16.mono (by decide)) (g26.mono (by decide)) (g18.mono (by decide)) (g24.mono (by decide)) (g19.mono (by decide)) (g25.mono (by decide)) (g27.mono (by decide))   FL).imp fun vs H Q E h=>DG r8 h
def walk {l:PySem.W.OpenLaw} {q:Program} {loose:List Str} {XP:(Str->Option Value)->Heap->Prop} {YP:World->Heap->Prop} {d:DefRec} {K:Params->PySem.W.Frag} (hn:l.most=some 63) (hdf:d.params.defaults=[]) (hq:PyProof.Rows.importsNone q=true)
  (hY:∀ (w:World) (h:Heap),YP w h->(K w.params).In h)
  (F:∀ (w:World) (mg:Str->Option Value) (fa:Addr) (h:Heap),(K w.params).In h->h.Ns mainGlobals mg->mg d.name=some (.ref fa) ->
   ∃ fd:FuncData,(∀ (s:Shared) (u:Value),BindsTo s fd ⟨[u],[]⟩ [("_law_script",u)])/\∀ base:Heap,(K w.params).In base->base.Ns mainGlobals mg->FnOk l.prog w (K w.params) mg base CX0 13 fa fd ["_law_script"] (kI (K w.params))) :
  PySem.W.WalkO q loose XP YP l.row.toRowW d [] (fun f vs=>PySem.call f vs) :=
 L2.walk_of (n:=63) (k:=13) (x:="_law_script") (CX:=fun _=>CX0) (sp:=fun w=>kI (K w.params)) hn (by decide) hdf ⟨rfl,by decide,by decide,rfl⟩ hq hY F (fun _ _ a ns hl hO hS=>⟨a,ns,rfl,hS,hO,hl,fun _=>rfl⟩) fun _ _ _ _ _ z=>z
end W04
open PySem PySem.W PyProof.Rows
set_option maxRecDepth 100000 in
set_option maxHeartbeats 0 in
theorem PySem.Challenge.cw_wordrules_k04_sentences_of_anything_holds : PySem.Challenge.rw_wordrules_k04_sentences_of_anything.Holds := by
 w_on; o_law; k_head; (case hw=>w_witness2)
 k_fill
 refine W04.walk (l:=PySem.Challenge.rw_wordrules_k04_sentences_of_anything) rfl rfl rfl (fun w h Y=>PySem.W.kIn_of Y) ?F
 case F =>
  intro w mg fa h KX G hmg;refine' W04.all_mk KX G hmg (.mk' ?_ ?_ ?_ ?_) (.mk' ?_ ?_ ?_ ?_) (.mk' ?_ ?_ ?_ ?_) (.mk' ?_ ?_ ?_ ?_) (.mk' ?_ ?_ ?_ ?_) (.mk' ?_ ?_ ?_ ?_) (.mk' ?_ ?_ ?_ ?_) (.mk' ?_ ?_ ?_ ?_) (.mk' ?_ ?_ ?_ ?_) (.mk' ?_ ?_ ?_ ?_) (.mk' ?_ ?_ ?_ ?_) (.mk' ?_ ?_ ?_ ?_) (.mk' ?_ ?_ ?_ ?_) (.mk' ?_ ?_ ?_ ?_) (.mk' ?_ ?_ ?_ ?_) (.mk' ?_ ?_ ?_ ?_) (.mk' ?_ ?_ ?_ ?_) (.mk' ?_ ?_ ?_ ?_) (.mk' ?_ ?_ ?_ ?_) (.mk' ?_ ?_ ?_ ?_) (.mk' ?_ ?_ ?_ ?_) (.mk' ?_ ?_ ?_ ?_) (.mk' ?_ ?_ ?_ ?_) (.mk' ?_ ?_ ?_ ?_) (.mk' ?_ ?_ ?_ ?_) (.mk' ?_ ?_ ?_ ?_) (.mk' ?_ ?_ ?_ ?_) (.mk' ?_ ?_ ?_ ?_) (.mk' ?_ ?_ ?_ ?_) ?_ ?_ ?_ ?_ ?_ ?_ ?_ ?_ ?_ ?_ ?_ ?_ ?_ ?_ ?_ ?_ ?_ ?_ ?_ ?_ ?_ ?_
  all_goals (try k_is)
