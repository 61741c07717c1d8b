import PyProof.Rows.All
import Wide.All
import OpenK.AllK
import Wide.FinOn
import Lean
import PyProof.EqAt
import PyProof.EqKinds
import PyProof.TupleCall
import PyProof.NeKinds
import PyProof.ConsumeWalk
import PyProof.ZipIter
import PyProof.EnumMake
import PyProof.EnumFor
import PyProof.StrWalks
import PyProof.ListStr
import PyProof.SliceStr2
import PyProof.StrBlockI
import PyProof.Rows.StrWeight2
import PyProof.Rows.ZipGen
import PyProof.Rows.StrIndexOr
import PyProof.Draws
import PyProof.RaisesStr
import PyProof.Rows.StrCountLaw
import PyProof.SumWalk
import PyProof.ReprRoads
import PyProof.ReprLen
import PyProof.CallFns
import PyProof.SumAny
import PyProof.SumAnyB
import KE.KRevIter
import PySem.Challenge.RW_wordrules_k32_shortest_told
set_option Elab.async false
set_option linter.all false
set_option maxRecDepth 100000
section
open PySem PyProof.Rows
def zaa:=@Option.bind_eq_some_iff
def zab:=@Option.map_eq_some_iff
def zac:=@List.length_cons
def zad:=@List.length_map
def zae:=@List.length_append
def zaf:=@Heap.get?_push_of_some
def zag:=@Nat.lt_of_lt_of_le
def zah:=@List.getElem?_eq_some_iff
def zai:=@List.size_toArray
def zaj:=@List.mem_cons_of_mem
def zak:=@List.getElem?_eq_getElem
def zal:=@Heap.lt_size
def zam:=@wpAny_bind
def zan:=@Heap.get?_push_size
def zao:=@List.getElem?_map
def zaq:=@List.mem_cons_self
def zar:=@List.map_cons
def zas:=@List.lookup_cons
def zat:=@Option.some.inj
def zau:=@Nat.le_trans
def zav:=@Nat.le_refl
def zaw:=@Nat.ne_of_lt
def zax:=@List.mem_append
def zay:=@List.mem_cons
def zaz:=@List.mem_map
def zaA:=@decide_eq_false
def zaB:=@decide_eq_true
def zaC:=@List.map_append
def zaE:=@List.length_take
def zaF:=@List.length_drop
def zaH:=@List.mem_singleton
def zaI:=@Nat.lt_irrefl
def zaK:=@List.getElem_mem
def zaL:=@Int.toNat_natCast
def zaM:=@Int.eq_ofNat_of_zero_le
def zaN:=@List.length_replicate
def zaO:=@List.getElem?_set_ne
def zaP:=@List.getElem?_set_self
def zaQ:=@List.take_length
def zaR:=@List.map_map
def zaS:=@List.getElem?_append_left
def zaT:=@wpAny_pure
def zaU:=@PySem.mem_of_lookup
def zaV:=@List.length_set
def zaX:=@List.mem_of_getElem?
def zaY:=@Array.length_toList
def za1:=@Prod.mk.injEq
def za4:=@Nat.zero_add
def za7:=@List.length_eq_zero_iff
def za8:=@PySem.W.mg_none_of
def zba:=@Int.emod_nonneg
def zbb:=@Int.emod_lt_of_pos
def zbc:=@List.nodup_cons
end
namespace PySem.W.Fast
def tw10158942481666943135:=0
def tw10335173868824869014:=0
def tw10408768878064065167:=0
def tw10459410427267037962:=0
def tw10533435144808773364:=0
def tw10742695957224048553:=0
def tw10900174682287681894:=0
def tw10905668447817042654:=0
def tw10983022472248288635:=0
def tw10992960983564505718:=0
def tw11244981192217057834:=0
def tw11286421686689064549:=0
def tw11416174004671063118:=0
def tw12059747636279277781:=0
def tw12062792987137215952:=0
def tw12231534426119414946:=0
def tw12577495175939687732:=0
def tw12810652050675972709:=0
def tw12885631862600582538:=0
def tw13136416177879779412:=0
def tw1314105191832009838:=0
def tw13450123552104736347:=0
def tw13589445904762127116:=0
def tw13599575021837413900:=0
def tw13976162594973886887:=0
def tw14000560294240145665:=0
def tw1403291043205437121:=0
def tw14309926987307307584:=0
def tw14356829338807574955:=0
def tw14410723535293214273:=0
def tw14475992090126410829:=0
def tw14544352105768715276:=0
def tw14728414091217902182:=0
def tw14793774732387770321:=0
def tw14872172595741710643:=0
def tw14934306405688806001:=0
def tw15046978388757559361:=0
def tw15254521721489073153:=0
def tw15300025094041526463:=0
def tw15794190542684066368:=0
def tw15823057901490394842:=0
def tw16008737784998981456:=0
def tw16409282076664012903:=0
def tw16660952756686079361:=0
def tw16989160693836188495:=0
def tw16990597439335598125:=0
def tw17028202099545093490:=0
def tw17152838385675215858:=0
def tw17161012711296236737:=0
def tw17210836809600690115:=0
def tw1735991732631939521:=0
def tw17534182516596905199:=0
def tw17633958543047749952:=0
def tw17766749721101292629:=0
def tw17805655934311778908:=0
def tw1817000097611176178:=0
def tw1820855637583592927:=0
def tw2025610648650071306:=0
def tw2086141365520341887:=0
def tw2115095296739592026:=0
def tw2213385750245685415:=0
def tw2571894609178192773:=0
def tw2574615774058340642:=0
def tw2793609771634852166:=0
def tw2806562260741104345:=0
def tw2912527213302436740:=0
def tw3142503376777567794:=0
def tw3233532485025004408:=0
def tw3241985917660855420:=0
def tw3284028481436273383:=0
def tw3675626833647169232:=0
def tw3773392569173624613:=0
def tw3838116303341112680:=0
def tw3889551265067163110:=0
def tw3928483831631834185:=0
def tw4349434165333612809:=0
def tw4375003044231735303:=0
def tw4909442575712354718:=0
def tw5120274054518511799:=0
def tw5358145483942931572:=0
def tw5424408421636423993:=0
def tw5440343031302052722:=0
def tw600547351794057074:=0
def tw6670658906567891407:=0
def tw6761204324094141272:=0
def tw6876684719511240869:=0
def tw6940916897453248686:=0
def tw714536473091376660:=0
def tw7240921381211034439:=0
def tw7490747191307736643:=0
def tw7734789732133521390:=0
def tw8016054594162180575:=0
def tw8178572842681029794:=0
def tw8246088628248037009:=0
def tw9032021966668344687:=0
def tw9399279887402772143:=0
def tw9506623222171822982:=0
def tw9574734939367607338:=0
def tw9760620289058975998:=0
end PySem.W.Fast
namespace L2
open PySem PySem.Spec PyProof.Rows
abbrev Key:=Sum Int Str
def iJ:Key->Value->Bool
 | .inl k,v=>Value.isInt k v
 | .inr x,v=>Value.isStrOf x v
def Hx (w:World):Key->Int
 | .inl k=>hashInt k
 | .inr x=>hashStr w x
def bi:∀ {k:Key} {v:Value},iJ k v=true->(∃ i t,k=Sum.inl i/\v=Value.int i t)\/(∃ x t,k=Sum.inr x/\v=Value.str x t)
 | .inl i,v,h=>by
  obtain ⟨t,e⟩:=Value.isInt_shape (k:=i) (v:=v) h;exact .inl ⟨i,t,rfl,e⟩
 | .inr x,v,h=>by
  obtain ⟨t,e⟩:=Value.isStrOf_shape (x:=x) (v:=v) h;exact .inr ⟨x,t,rfl,e⟩
def su (i:Int) (t:Tok):iJ (.inl i) (.int i t)=true:=by simp [iJ,Value.isInt]
def ss (x:Str) (t:Tok):iJ (.inr x) (.str x t)=true:=by simp [iJ,Value.isStrOf]
def sr (a b:Int):decide ((Sum.inl a:Key)=Sum.inl b)=(a == b):=by
 by_cases e:a=b
 ·subst e; simp
 ·have h:¬ (Sum.inl a:Key)=Sum.inl b:=fun q=>e (Sum.inl.inj q);rw [zaA h];exact (beq_eq_false_iff_ne.mpr e).symm
def sg (a b:Str):decide ((Sum.inr a:Key)=Sum.inr b)=decide (a=b):=by
 by_cases e:a=b
 ·subst e; simp
 ·have h:¬ (Sum.inr a:Key)=Sum.inr b:=fun q=>e (Sum.inr.inj q);rw [zaA h,zaA e]
def sn (a:Int) (b:Str):decide ((Sum.inl a:Key)=Sum.inr b)=false:=zaA (fun q=>nomatch q)
def sj (a:Str) (b:Int):decide ((Sum.inr a:Key)=Sum.inl b)=false:=zaA (fun q=>nomatch q)
def aZ (prog:Program) (w:World):PySem.KeyKind prog w Key where
 is:=iJ
 hash:=Hx w
 inj:=fun v a b ha hb=>by
  rcases bi ha with ⟨i,t,rfl,rfl⟩ | ⟨x,t,rfl,rfl⟩
  ·rcases bi hb with ⟨j,u,rfl,e⟩ | ⟨y,u,rfl,e⟩
   ·injection e with e1 _; rw [e1]
   ·exact nomatch e
  ·rcases bi hb with ⟨j,u,rfl,e⟩ | ⟨y,u,rfl,e⟩
   ·exact nomatch e
   ·injection e with e1 _; rw [e1]
 byValue:=fun k v h=>by
  rcases bi h with ⟨i,t,rfl,rfl⟩ | ⟨x,t,rfl,rfl⟩ <;> rfl
 pyHash:=fun hv h=>by
  rcases bi hv with ⟨i,t,rfl,rfl⟩ | ⟨x,t,rfl,rfl⟩
  ·exact wpAny_pyHash_int h
  ·exact wpAny_pyHash_str h
 eqBool:=fun hu hv h=>by
  rcases bi hu with ⟨i,t,rfl,rfl⟩ | ⟨x,t,rfl,rfl⟩
  ·rcases bi hv with ⟨j,u,rfl,rfl⟩ | ⟨y,u,rfl,rfl⟩
   ·rw [sr] at h; exact wpAny_eqBool_int h
   ·rw [sn] at h; exact SeqAt.EqAt.int_str i t y u _ _ _ _ h
  ·rcases bi hv with ⟨j,u,rfl,rfl⟩ | ⟨y,u,rfl,rfl⟩
   ·rw [sj] at h; exact SeqAt.EqAt.str_int x t j u _ _ _ _ h
   ·rw [sg] at h; exact wpAny_eqBool_str h
 «strs»:=fun k x t v h=>by
  rcases bi h with ⟨i,u,rfl,e⟩ | ⟨y,u,rfl,e⟩
  ·exact nomatch e
  ·injection e with e1 _
   subst e1;cases v <;> rfl
def oQ (prog:Program) (w:World) (i:Int) (t:Tok):(aZ prog w).is (.inl i) (.int i t)=true:=su i t
def oP (prog:Program) (w:World) (x:Str) (t:Tok):(aZ prog w).is (.inr x) (.str x t)=true:=ss x t
inductive V where
 | non | bl (b:Bool) | int (i:Int) | str (x:Str) | byt (b:Array UInt8) | flt (b:UInt64) | ref (a:Addr) | ty (n:String)
 deriving DecidableEq
def RelV:V->Value->Prop
 | .non,u=>u=Value.none
 | .bl b,u=>u=Value.bool b
 | .int i,u=>∃ t,u=Value.int i t
 | .str x,u=>∃ t,u=Value.str x t
 | .byt b,u=>∃ t,u=Value.bytes b t
 | .flt b,u=>∃ t,u=Value.float b t
 | .ref a,u=>u=Value.ref a
 | .ty n,u=>u=Value.type n
abbrev Vals:List V->List Value->Prop:=Paired RelV
def Vals.length {xs:List V} {us:List Value} (r:Vals xs us):xs.length=us.length:=Paired.length r
def Vals.get:∀ {xs:List V} {us:List Value} {i:Nat} {x:V},Vals xs us->xs[i]?=some x->∃ u,us[i]?=some u/\RelV x u
 | _,_,_,_,.nil,e=>by simp at e
 | _,_,0,_,.cons r _,e=>by simp at e; subst e; exact ⟨_,rfl,r⟩
 | _,_,i+1,x,.cons _ t,e=>by
  obtain ⟨u,h1,h2⟩:=Vals.get (i:=i) (x:=x) t (by simpa using e);exact ⟨u,by simpa using h1,h2⟩
def Vals.set {x:V} {u:Value} (r:RelV x u):∀ {xs:List V} {us:List Value} (i:Nat),Vals xs us->Vals (xs.set i x) (us.set i u)
 | _,_,_,.nil=>.nil
 | _,_,0,.cons _ t=>.cons r t
 | _,_,i+1,.cons q t=>.cons q (Vals.set r i t)
def Vals.append:∀ {xs ys:List V} {us ws:List Value},Vals xs us->Vals ys ws->Vals (xs++ys) (us++ws)
 | _,_,_,_,.nil,s=>s
 | _,_,_,_,.cons r t,s=>.cons r (Vals.append t s)
def Vals.take:∀ {xs:List V} {us:List Value} (n:Nat),Vals xs us->Vals (xs.take n) (us.take n)
 | _,_,0,_=>.nil
 | _,_,_+1,.nil=>.nil
 | _,_,n+1,.cons r t=>.cons r (Vals.take n t)
def Vals.drop:∀ {xs:List V} {us:List Value} (n:Nat),Vals xs us->Vals (xs.drop n) (us.drop n)
 | _,_,0,r=>r
 | _,_,_+1,.nil=>.nil
 | _,_,n+1,.cons _ t=>Vals.drop n t
def RelO:Option V->Option Value->Prop
 | some v,some u=>RelV v u
 | none,none=>True
 | _,_=>False
def KV {κ:Type}:List (κ × V)->List (κ × Value)->Prop:=Paired fun (p:κ × V) (q:κ × Value)=>p.1=q.1/\RelV p.2 q.2
def kV:Key->V
 | .inl i=>.int i
 | .inr x=>.str x
inductive HO where
 | lst (xs:List V)
 | tup (xs:List V)
 | dK (kvs:List (Key × V)) | dT (kvs:List (List Key × V))
 | set (S:Int->Bool) (n:Nat)
 | ins (C dx:Addr) (fs:List (Str × V))
 | own (x:Addr)
 | xd (fs:List (Str × V))
 | met (f x:Addr)
 | rng (lo hi:Int)
 | frz (o:Obj) (u:HO)
 | tbl (ps:Array Value)
 | ext (φ:Heap->Prop)
abbrev Hp:=Addr->Option HO
def upd (H:Hp) (a:Addr) (o:HO):Hp:=fun b=>if b=a then some o else H b
def aw {H:Hp} {a:Addr} {o:HO}:upd H a o a=some o:=by unfold upd; rw [if_pos rfl]
def ay {H:Hp} {a b:Addr} {o:HO} (h:b≠a):upd H a o b=H b:=by unfold upd; rw [if_neg h]
def GM {H:Hp} {a b:Addr} {o u:HO} (h:H a=some o) (h':H b=some u) (d:o≠u):a≠b:=by
 intro e; subst e; rw [h] at h'; exact d (zat h')
def bb {H:Hp} {a b:Addr} {o:HO} (h:H a=some o) (h':H b=none):a≠b:=by
 intro e; subst e; rw [h] at h'; cases h'
def IsTupN (h:Heap) (a:Addr) (its:Array Value):Prop:=∃ o,h.get? a=some o/\o.cls=.type "tuple"/\∃ n,o.data=.seq its n/\o.dict=none
def IsTupN.tup {h:Heap} {a:Addr} {its:Array Value} (x:IsTupN h a its):IsTup h a its:=by
 obtain ⟨o,h1,h2,n,h3,_⟩:=x;exact ⟨o,h1,h2,n,h3⟩
def IsTupN.lt {h:Heap} {a:Addr} {its:Array Value} (x:IsTupN h a its):a < h.objs.size:=zal x.choose_spec.1
section
variable (P:Program) (w:World)
def ObjOk (H:Hp) (h:Heap) (a:Addr):HO->Prop
 | .lst xs=>xs.length<=sizeLine/\∃ (its:List Value) (n:Nat),Vals xs its/\h.get? a=some { cls:=.type "list",data:=.seq its.toArray n }
 | .tup xs=>xs.length<=sizeLine/\∃ its:List Value,Vals xs its/\IsTupN h a its.toArray
 | .dK kvs=>kvs.length<=sizeLine/\(a == sysModules)=false/\∃ vs,KV kvs vs/\h.DictOf (aZ P w) a vs
 | .dT kvs=>kvs.length<=sizeLine/\(a == sysModules)=false/\∃ xs:List (List Key × Addr × Value),
   Paired (fun (p:List Key × V) (q:List Key × Addr × Value)=>p.1=q.1/\H q.2.1=some (.tup (p.1.map kV))/\RelV p.2 q.2.2) kvs xs /\
   ∃ o es ep,h.get? a=some o/\o.ExactDict/\o.data=.dict es ep/\es.toList=xs.map (entryOfKey (tupleKind (aZ P w)))/\(xs.map (·.1)).Nodup
 | .set S n=>h.SetOf (intKind P w) a S n
 | .ins C dx fs=>H dx=some (.own a)/\fs.length<=1000/\dx≠a/\h.get? a=some (PySem.W.instObj C dx) /\
   ∃ mA,h.Ns1 dx mA/\(∀ f,RelO (fs.lookup f) (mA f))/\PySem.Within mA (fs.map (·.1))
 | .own _=>∃ o,h.get? a=some o
 | .xd fs=>∃ mA,h.Ns1 a mA/\∀ f,RelO (fs.lookup f) (mA f)
 | .rng lo hi=>∃ t u v,h.get? a=some { cls:=.type "range",data:=.fields #[.int lo t,.int hi u,.int 1 v] }
 | .frz o u=>h.get? a=some o/\ObjOk H h a u
 | .tbl ps=>h.get? a=some { cls:=.none,data:=.fields ps }
 | .met f x=>h.get? a=some (PySem.W.methodObj (.ref f) (.ref x))
 | .ext φ=>φ h/\(∃ o,h.get? a=some o)/\∀ h1 h2:Heap,φ h1->(∀ o,h1.get? a=some o->h2.get? a=some o)->φ h2
def HOk (H:Hp) (h:Heap):Prop:=∀ a o,H a=some o->ObjOk P w H h a o
end
section
variable {P:Program} {w:World} {H H':Hp} {h h':Heap} {a:Addr} {o:HO}
def ObjOk.lt (x:ObjOk P w H h a o):a < h.objs.size:=by
 cases o with
 | lst xs=>obtain ⟨_,_,_,_,e⟩:=x; exact zal e
 | tup xs=>obtain ⟨_,_,_,p⟩:=x; exact p.lt
 | dK kvs=>obtain ⟨_,_,_,_,o,_,_,e,_⟩:=x; exact zal e
 | dT kvs=>obtain ⟨_,_,_,_,o,_,_,e,_⟩:=x; exact zal e
 | set S n=>obtain ⟨o,_,_,_,e,_⟩:=x; exact zal e
 | ins C dx fs=>obtain ⟨_,_,_,e,_⟩:=x; exact zal e
 | own y=>obtain ⟨_,e⟩:=x; exact zal e
 | xd fs=>obtain ⟨_,⟨_,_,_,e,_⟩,_⟩:=x; exact zal e
 | rng lo hi=>obtain ⟨_,_,_,e⟩:=x; exact zal e
 | frz ob u=>obtain ⟨e,_⟩:=x; exact zal e
 | tbl ps=>exact zal (show h.get? a=some _ from x)
 | met f y=>exact zal (show h.get? a=some _ from x)
 | ext φ=>obtain ⟨_,⟨_,e⟩,_⟩:=x; exact zal e
def Paired.mapP {α β:Type} {F G:α->β->Prop}:∀ {l₁:List α} {l₂:List β},Paired F l₁ l₂->(∀ a b,F a b->G a b)->Paired G l₁ l₂
 | _,_,.nil,_=>.nil
 | _,_,.cons r t,f=>.cons (f _ _ r) (Paired.mapP t f)
def ObjOk.stay (x:ObjOk P w H h a o) (k:∀ b u,(b=a\/H b=some (.own a))->h.get? b=some u->h'.get? b=some u)
  (ho:∀ b,H b=some (.own a)->H' b=some (.own a)) (ht:∀ b xs,H b=some (.tup xs)->H' b=some (.tup xs)):ObjOk P w H' h' a o:=by
 induction o with
 | lst xs=>obtain ⟨z,its,n,r,e⟩:=x; exact ⟨z,its,n,r,k _ _ (.inl rfl) e⟩
 | tup xs=>obtain ⟨z,its,r,ob,e,c⟩:=x; exact ⟨z,its,r,ob,k _ _ (.inl rfl) e,c⟩
 | dK kvs=>obtain ⟨z,y,vs,r,ob,es,ep,e,c⟩:=x; exact ⟨z,y,vs,r,ob,es,ep,k _ _ (.inl rfl) e,c⟩
 | dT kvs =>
  obtain ⟨z,y,xs,r,ob,es,ep,e,c⟩:=x;exact ⟨z,y,xs,Paired.mapP r fun p q z=>⟨z.1,ht _ _ z.2.1,z.2.2⟩,ob,es,ep,k _ _ (.inl rfl) e,c⟩
 | set S n=>obtain ⟨ob,es,ep,t,e,c⟩:=x; exact ⟨ob,es,ep,t,k _ _ (.inl rfl) e,c⟩
 | ins C dx fs =>
  obtain ⟨d,z,ne,e,mA,⟨od,es,ep,e2,c⟩,r⟩:=x;exact ⟨ho _ d,z,ne,k _ _ (.inl rfl) e,mA,⟨od,es,ep,k _ _ (.inr d) e2,c⟩,r⟩
 | own y=>obtain ⟨ob,e⟩:=x; exact ⟨ob,k _ _ (.inl rfl) e⟩
 | xd fs=>obtain ⟨mA,⟨od,es,ep,e,c⟩,r⟩:=x; exact ⟨mA,⟨od,es,ep,k _ _ (.inl rfl) e,c⟩,r⟩
 | rng lo hi=>obtain ⟨t,u,v,e⟩:=x; exact ⟨t,u,v,k _ _ (.inl rfl) e⟩
 | frz ob u ih=>obtain ⟨e,q⟩:=x; exact ⟨k _ _ (.inl rfl) e,ih q⟩
 | tbl ps =>
  have e:h.get? a=some { cls:=.none,data:=.fields ps }:=x;show h'.get? a=some { cls:=.none,data:=.fields ps };exact k a _ (.inl rfl) e
 | met f y =>
  have e:h.get? a=some (PySem.W.methodObj (.ref f) (.ref y)):=x;show h'.get? a=some (PySem.W.methodObj (.ref f) (.ref y));exact k a _ (.inl rfl) e
 | ext φ=>obtain ⟨p,⟨o,e⟩,st⟩:=x; exact ⟨st _ _ p fun o q=>k _ _ (.inl rfl) q,⟨o,k _ _ (.inl rfl) e⟩,st⟩
def HOk.lt (x:HOk P w H h) (e:H a=some o):a < h.objs.size:=(x a o e).lt
def HOk.fresh (x:HOk P w H h) (e:h.objs.size<=a):H a=none:=by
 cases q:H a with
 | none=>rfl
 | some u=>exact absurd (zag (x.lt q) e) (zaI _)
def HOk.kept (x:HOk P w H h) (k:∀ b u,h.get? b=some u->h'.get? b=some u):HOk P w H h':=fun a o e =>
 (x a o e).stay (fun b u _ q=>k b u q) (fun _ q=>q) fun _ _ q=>q
def HOk.laid (x:HOk P w H h) (k:∀ b u,h.get? b=some u->h'.get? b=some u) (hp:h.objs.size<=a) (new:ObjOk P w (upd H a o) h' a o):HOk P w (upd H a o) h':=fun b u e=>by
 have hn:=x.fresh hp;by_cases hb:b=a
 ·subst hb; rw [aw] at e; cases e; exact new
 ·rw [ay hb] at e;exact (x b u e).stay (fun c v _ q=>k c v q) (fun c q=>by rw [ay (bb q hn)]; exact q) fun c xs q=>by rw [ay (bb q hn)]; exact q
end
def Rd (H:Hp) (a:Addr) (u:HO):Prop:=H a=some u\/∃ o,H a=some (.frz o u)
def Rd.ok {P:Program} {w:World} {H:Hp} {h:Heap} {a:Addr} {u:HO} (r:Rd H a u) (x:HOk P w H h):ObjOk P w H h a u:=by
 rcases r with r | ⟨o,r⟩
 ·exact x a u r
 ·obtain ⟨_,q⟩:=x a _ r;exact q
def Mut:Option HO->Prop
 | some (.lst _)=>True
 | some (.dK _)=>True
 | some (.dT _)=>True
 | some (.set _ _)=>True
 | some (.ins _ _ _)=>True
 | some (.ext _)=>True
 | _=>False
section
variable {P:Program} {w:World} {H:Hp} {h h':Heap} {x e:Addr} {o':HO}
def HOk.write (ok:HOk P w H h) (mu:Mut (H x)) (he:e=x\/H e=some (.own x)) (k:∀ b u,b≠e->h.get? b=some u->h'.get? b=some u) (heo:∃ u,h'.get? e=some u)
  (new:ObjOk P w (upd H x o') h' x o'):HOk P w (upd H x o') h':=fun b u q=>by
 have nown:∀ c y,H c=some (.own y)->c≠x:=fun c y r z=>by subst z; rw [r] at mu; exact mu
 have ntup:∀ c xs,H c=some (.tup xs)->c≠x:=fun c xs r z=>by subst z; rw [r] at mu; exact mu
 by_cases hb:b=x
 ·subst hb; rw [aw] at q; cases q; exact new
 ·rw [ay hb] at q;by_cases hbe:b=e
  ·have q':H b=some (.own x):=by
    rcases he with z | z
    ·exact absurd (hbe.trans z) hb
    ·rw [hbe]; exact z
   rw [q] at q'; cases q';obtain ⟨v,hv⟩:=heo;exact ⟨v,by rw [hbe]; exact hv⟩
  ·refine (ok b u q).stay (fun c v hc r=>k c v ?_ r) (fun c r=>by rw [ay (nown c b r)]; exact r) fun c xs r=>by rw [ay (ntup c xs r)]; exact r
   rcases hc with rfl | hc
   ·exact hbe
   ·rintro rfl;rcases he with z | z
    ·exact nown c b hc z
    ·rw [hc] at z; cases z; exact hb rfl
end
structure Un (fs ex:List Addr) (H H':Hp) (h h':Heap):Prop where
 keep:∀ b o,h.get? b=some o->H b=none->b ∉ fs->b ∉ ex->h'.get? b=some o
 slot:∀ b o,h.get? b=some o->H b=none->b∈fs->b ∉ ex->∃ sl,h'.get? b=some { o with slots:=sl }
 free:∀ b o,h.get? b=some o->H b=none->b ∉ ex->H' b=none
 there:∀ b o,h.get? b=some o->b ∉ ex->∃ o',h'.get? b=some o'
 tups:∀ b xs,H b=some (.tup xs)->H' b=some (.tup xs)
 frzs:∀ b o u,H b=some (.frz o u)->H' b=some (.frz o u)
 tbls:∀ b ps,H b=some (.tbl ps)->∃ more,H' b=some (.tbl (ps++more))
section
variable {fs fs' ex ex':List Addr} {H H1 H2:Hp} {h h1 h2 h':Heap} {a x e:Addr} {o:HO}
def Un.any (u:Un fs ex H H1 h h1) {b:Addr} {ob:Obj} (q:h.get? b=some ob) (n:H b=none) (hx:b ∉ ex):∃ sl,h1.get? b=some { ob with slots:=sl }:=by
 by_cases hb:b∈fs
 ·exact u.slot b ob q n hb hx
 ·exact ⟨ob.slots,u.keep b ob q n hb hx⟩
def Un.trans (a:Un fs ex H H1 h h1) (b:Un fs ex H1 H2 h1 h2):Un fs ex H H2 h h2 where
 keep:=fun c ob q n hc hx=>b.keep c ob (a.keep c ob q n hc hx) (a.free c ob q n hx) hc hx
 slot:=fun c ob q n hc hx=>by
  obtain ⟨sl,e1⟩:=a.slot c ob q n hc hx;obtain ⟨sl',e2⟩:=b.slot c _ e1 (a.free c ob q n hx) hc hx;exact ⟨sl',e2⟩
 free:=fun c ob q n hx=>by
  obtain ⟨o',e1⟩:=a.there c ob q hx;exact b.free c o' e1 (a.free c ob q n hx) hx
 there:=fun c ob q hx=>by
  obtain ⟨o',e1⟩:=a.there c ob q hx;exact b.there c o' e1 hx
 tups:=fun c xs q=>b.tups c xs (a.tups c xs q)
 frzs:=fun c ob xs q=>b.frzs c ob xs (a.frzs c ob xs q)
 tbls:=fun c ps q=>by
  obtain ⟨m1,e1⟩:=a.tbls c ps q;obtain ⟨m2,e2⟩:=b.tbls c _ e1;exact ⟨m1++m2,by rw [e2,Array.append_assoc]⟩
def Un.kept (k:∀ b u,h.get? b=some u->h'.get? b=some u):Un fs ex H H h h' :=
 ⟨fun b ob q _ _ _=>k b ob q,fun b ob q _ _ _=>⟨ob.slots,k b ob q⟩,fun _ _ _ n _=>n,fun b ob q _=>⟨ob,k b ob q⟩,fun _ _ q=>q,fun _ _ _ q=>q,fun _ ps q=>⟨#[],by rw [q]; simp⟩⟩
def Un.refl:Un fs ex H H h h:=Un.kept fun _ _ q=>q
def Un.laid (k:∀ b u,h.get? b=some u->h'.get? b=some u) (hp:h.objs.size<=a) (hn:H a=none):Un fs ex H (upd H a o) h h' where
 keep:=fun b u q _ _ _=>k b u q
 slot:=fun b u q _ _ _=>⟨u.slots,k b u q⟩
 free:=fun b u q n _=>by rw [ay (zaw (zag (zal q) hp))]; exact n
 there:=fun b u q _=>⟨u,k b u q⟩
 tups:=fun b xs q=>by rw [ay (bb q hn)]; exact q
 frzs:=fun b u xs q=>by rw [ay (bb q hn)]; exact q
 tbls:=fun b ps q=>⟨#[],by rw [ay (bb q hn),q]; simp⟩
def Un.write (mu:Mut (H x)) (he:e=x\/H e=some (.own x)) (k:∀ b u,b≠e->h.get? b=some u->h'.get? b=some u) (heo:∃ u,h'.get? e=some u):Un fs ex H (upd H x o) h h':=by
 have hx:∀ b,H b=none->b≠x:=fun b n z=>by subst z; rw [n] at mu; exact mu
 have hb:∀ b,H b=none->b≠e:=fun b n z=>by
  subst z;rcases he with r | r
  ·exact hx b n r
  ·rw [n] at r; cases r
 have hm:∀ b u,H b=some u->¬ Mut (some u)->b≠x:=fun b u q nm z=>by subst z; rw [q] at mu; exact nm mu
 refine ⟨fun b u q n _ _=>k b u (hb b n) q,fun b u q n _ _=>⟨u.slots,k b u (hb b n) q⟩,fun b u q n _=>by rw [ay (hx b n)]; exact n,fun b u q _=>?_,
  fun b xs q=>by rw [ay (hm b _ q fun z=>z)]; exact q,fun b u xs q=>by rw [ay (hm b _ q fun z=>z)]; exact q,fun b ps q=>⟨#[],by rw [ay (hm b _ q fun z=>z),q]; simp⟩⟩
 by_cases hbe:b=e
 ·subst hbe; exact heo
 ·exact ⟨u,k b u hbe q⟩
end
def trk (h:Heap) (H:Hp):List Addr:=(List.range h.objs.size).filter fun a=>(H a).isSome
def iK (h:Heap) (H:Hp):Heap:=PySem.W.hideAll h (trk h H)
def sD (h:Heap) (H:Hp):(iK h H).objs.size=h.objs.size:=PySem.W.hideAll_size _ _
def uH {h:Heap} {H:Hp} {b:Addr} {o:Obj} (e:h.get? b=some o) (n:H b=none):(iK h H).get? b=some o :=
 PySem.W.hideAll_get _ e fun hm=>by
  have q:(H b).isSome=true:=(List.mem_filter.mp hm).2;rw [n] at q; simp at q
def Bb {h:Heap} {H:Hp} {b:Addr} {o:Obj} (e:(iK h H).get? b=some o):h.get? b=some o/\H b=none:=by
 have e':h.get? b=some o:=PySem.W.of_hideAll (trk h H) e;refine ⟨e',?_⟩;cases q:H b with
 | none=>rfl
 | some x =>
  have hm:b∈trk h H:=List.mem_filter.mpr ⟨List.mem_range.mpr (zal e'),by simp [q]⟩;have z:(iK h H).get? b=none:=PySem.W.hideAll_none (trk h H) hm;rw [z] at e; cases e
def Cn (g h:Heap) (L:Addr):List (Addr × Obj):=(List.range h.objs.size).filterMap fun a=>if a=L\/(g.get? a).isSome=true then none else (h.get? a).map fun o=>(a,o)
def rest (g h:Heap) (L d:Addr):List (Addr × Obj):=(Cn g h L).filter fun p=>decide (p.1≠d)
structure Mod (K:PySem.W.Frag) (mg:Str->Option Value) (base:Heap):Prop where
 kin:K.In base
 glob:base.Ns mainGlobals mg
 blt:∃ mb,base.Ns builtinsNs mb/\∀ x:Str,x≠"__name__"->mb x=bootBuiltins x
 nolimit:base.NoLimit
 mods:∃ mm,base.Ns sysModules mm
structure Cx where
 prog:Program
 w:World
 K:PySem.W.Frag
 mg:Str->Option Value
 base:Heap
 A:Around
 N:List Str
 s₀:Shared
 H₀:Hp
 env:Env
 outer:List Env
 stack:List Env
 ex:List Addr
 fn:Str->Bool
 calm:Bool
 pn:List (Addr × Obj)
 xe:Value->Shared->Prop
def frs (l:List Env):List Addr:=l.filterMap (·.frame)
abbrev Cx.fs (X:Cx):List Addr:=frs X.outer
def Vis (sc:Scope) (x:Str):Prop:=sc.names.lookup x=some .local\/sc.names.lookup x=some .cell\/sc.names.lookup x=some .free
def Loc (sc:Scope) (x:Str):Prop:=sc.names.lookup x=some .local\/sc.names.lookup x=some .cell
def HR (env:Env) (h:Heap) (m:Str->Option Value) (x:Str) (u:Value):Prop :=
 (env.kindOf x=some .local/\m x=some u)\/((env.kindOf x=some .cell\/env.kindOf x=some .free)/\∃ c,env.cells.lookup x=some c/\h.IsCell c (some u))
structure Cx.Ok (X:Cx):Prop where
 mod:Mod X.K X.mg X.base
 kind:X.env.scope.kind=.function
 glob:X.env.globals=mainGlobals
 blt:X.env.builtins=builtinsNs
 above:X.s₀.heap.objs.size<=X.env.locals
 inj:∀ x y c,X.env.cells.lookup x=some c->X.env.cells.lookup y=some c->x=y
 has:∀ x,(X.env.kindOf x=some .cell\/X.env.kindOf x=some .free)->∃ c,X.env.cells.lookup x=some c
 cab:∀ x c,X.fn x=true->X.env.cells.lookup x=some c->X.s₀.heap.objs.size<=c
 hd:X.calm=true->X.A.handled=none
 frames:X.A.frames=some X.stack
 stk:X.stack=X.outer\/(X.stack=X.env :: X.outer/\X.env.frame=some X.env.locals)
 exf:∀ b∈X.ex,b≠X.env.locals/\∀ x c,X.env.cells.lookup x=some c->c≠b
 bs:∀ b o,X.base.get? b=some o->X.s₀.heap.get? b=some o/\X.H₀ b=none
 bsz:X.base.objs.size<=X.s₀.heap.objs.size
 noex:∀ b o,X.base.get? b=some o->b ∉ X.ex
 exfs:∀ b∈X.ex,b ∉ X.fs
 funs:X.s₀.heap.FunFrames X.base X.outer
 frf:∀ b∈X.fs,X.H₀ b=none
structure Inv (X:Cx) (pins:List (Addr × Obj)) (σ:List (Option V)) (H:Hp) (s:Shared):Prop where
 ok:X.Ok
 os:s.os=X.s₀.os
 bare:AllBare s.gens
 base:Un X.fs X.ex X.H₀ H X.s₀.heap s.heap
 loc:∃ m,s.heap.Ns X.env.locals m/\∀ (i:Nat) (x:Str) (v:V),X.N[i]?=some x->σ[i]?=some (some v)->Vis X.env.scope x->∃ u,RelV v u/\HR X.env s.heap m x u
 cell:∀ x c,X.env.cells.lookup x=some c->∃ v,s.heap.IsCell c v
 free:H X.env.locals=none
 freeC:∀ x c,X.env.cells.lookup x=some c->H c=none
 pin:∀ p∈X.pn++pins,s.heap.get? p.1=some p.2/\H p.1=none/\p.1≠X.env.locals/\p.1 ∉ X.fs/\∀ v,p.2.data≠.cell v
 hok:HOk X.prog X.w H s.heap
 len:σ.length=X.N.length
section
variable {X:Cx} {pins:List (Addr × Obj)} {σ:List (Option V)} {H H':Hp} {s:Shared} {h':Heap}
def Cx.Ok.nofr (ok:X.Ok) {b:Addr} {o:Obj} (e:X.base.get? b=some o):b ∉ X.fs:=fun hb=>by
 have:=(ok.funs.mem hb).1;rw [e] at this; cases this
def Inv.bs (I:Inv X pins σ H s):∀ b o,X.base.get? b=some o->s.heap.get? b=some o/\H b=none:=fun b o e =>
 ⟨I.base.keep b o (I.ok.bs b o e).1 (I.ok.bs b o e).2 (I.ok.nofr e) (I.ok.noex b o e),I.base.free b o (I.ok.bs b o e).1 (I.ok.bs b o e).2 (I.ok.noex b o e)⟩
def Inv.bk (I:Inv X pins σ H s):∀ b o,X.base.get? b=some o->s.heap.get? b=some o:=fun b o e=>(I.bs b o e).1
def Inv.mod (I:Inv X pins σ H s):Mod X.K X.mg X.base:=I.ok.mod
def Inv.kIn (I:Inv X pins σ H s):X.K.In s.heap:=I.ok.mod.kin.keeps I.bk
def Inv.lt (I:Inv X pins σ H s):X.env.locals < s.heap.objs.size:=let ⟨_,hn,_⟩:=I.loc; hn.lt
def Inv.sz (I:Inv X pins σ H s):X.s₀.heap.objs.size<=s.heap.objs.size:=zau I.ok.above (Nat.le_of_lt I.lt)
def Inv.nofs (I:Inv X pins σ H s) {a:Addr} (h:s.heap.objs.size<=a):a ∉ X.fs:=fun hb=>by
 obtain ⟨_,o,ho,_⟩:=I.ok.funs.mem hb;exact absurd (zag (zal ho) (zau I.sz h)) (zaI _)
def Inv.cne (I:Inv X pins σ H s):∀ x c,X.env.cells.lookup x=some c->c≠X.env.locals:=fun x c e z=>by
 obtain ⟨v,o,ho,hd⟩:=I.cell x c e;obtain ⟨m,⟨o',es,ep,ho',hd',_⟩,_⟩:=I.loc;rw [z,ho'] at ho; cases ho; rw [hd'] at hd; cases hd
def Inv.funs (I:Inv X pins σ H s):s.heap.FunFrames X.base X.outer:=by
 have all:∀ (l:List Env),(∀ b∈frs l,b∈X.fs)->X.s₀.heap.FunFrames X.base l->s.heap.FunFrames X.base l:=by
  intro l
  induction l with
  | nil=>intro _ _; trivial
  | cons env r ih =>
   intro hs hl;obtain ⟨hk,⟨L,o,hf,hn,ho,hd⟩,hr⟩:=hl;have hL:L∈X.fs:=hs L (by unfold frs; rw [List.filterMap_cons,hf]; exact zaq);obtain ⟨sl,e⟩:=I.base.slot L o ho (I.ok.frf L hL) hL fun z=>I.ok.exfs L z hL;exact ⟨hk,⟨L,_,hf,hn,e,hd⟩,ih (fun b hb=>hs b (by unfold frs; rw [List.filterMap_cons,hf]; exact zaj _ hb)) hr⟩
 exact all X.outer (fun _ hb=>hb) I.ok.funs
def Inv.stack (I:Inv X pins σ H s):s.heap.FunFrames X.base X.stack:=by
 rcases I.ok.stk with e | ⟨e,hf⟩
 ·rw [e]; exact I.funs
 ·rw [e];obtain ⟨m,hn,_⟩:=I.loc;refine .cons (by rw [I.ok.kind]; decide) hf hn ?_ I.funs;exact Heap.get?_none_of_le (zau I.ok.bsz I.ok.above)
def Inv.stkSub (I:Inv X pins σ H s):∀ b∈frs X.stack,b∈X.env.locals :: X.fs:=fun b hb=>by
 rcases I.ok.stk with e | ⟨e,hf⟩
 ·rw [e] at hb; exact zaj _ hb
 ·rw [e] at hb;unfold frs at hb;rw [List.filterMap_cons,hf] at hb;exact hb
def Inv.stkFree (I:Inv X pins σ H s):∀ b∈frs X.stack,H b=none:=fun b hb=>by
 rcases zay.mp (I.stkSub b hb) with e | hb
 ·rw [e]; exact I.free
 ·obtain ⟨_,o,ho,_⟩:=I.ok.funs.mem hb;exact I.base.free b o ho (I.ok.frf b hb) fun z=>I.ok.exfs b z hb
def Inv.step {g':Array GenState} {t':Nat} {d':Drawn} {ch:List Addr} (I:Inv X pins σ H s)
  (hch:∀ b∈ch,(b∈X.ex\/X.s₀.heap.objs.size<=b)/\b≠X.env.locals/\(∀ x c,X.env.cells.lookup x=some c->c≠b)/\∀ p∈X.pn++pins,p.1≠b)
  (keep:∀ b o,b≠X.env.locals->b ∉ X.fs->b ∉ ch->s.heap.get? b=some o->H b=none->h'.get? b=some o)
  (slot:∀ b o,b≠X.env.locals->b∈X.fs->b ∉ ch->s.heap.get? b=some o->H b=none->∃ sl,h'.get? b=some { o with slots:=sl }) (free:∀ b o,b ∉ ch->s.heap.get? b=some o->H b=none->H' b=none)
  (there:∀ b o,b ∉ ch->s.heap.get? b=some o->∃ o',h'.get? b=some o')
  (tups:∀ b xs,H b=some (.tup xs)->H' b=some (.tup xs)) (frzs:∀ b o u,H b=some (.frz o u)->H' b=some (.frz o u)) (tbls:∀ b ps,H b=some (.tbl ps)->∃ more,H' b=some (.tbl (ps++more)))
  (ns:∀ m,s.heap.Ns X.env.locals m->h'.Ns X.env.locals m) (hok:HOk X.prog X.w H' h') (hg:AllBare g') :
  Inv X pins σ H' { s with heap:=h',gens:=g',drawn:=d',toks:=t' }:=by
 have neL:∀ b o,X.s₀.heap.get? b=some o->b≠X.env.locals:=fun b o e=>zaw (zag (zal e) I.ok.above);have neC:∀ b o,X.s₀.heap.get? b=some o->b ∉ X.ex->b ∉ ch:=fun b o e hx hb=>by
  rcases (hch b hb).1 with z | z
  ·exact hx z
  ·exact absurd (zag (zal e) z) (zaI _)
 have cellK:∀ x c,X.env.cells.lookup x=some c->∀ v,s.heap.IsCell c v->h'.IsCell c v:=fun x c e v ⟨o,ho,hd⟩=>by
  have nch:c ∉ ch:=fun z=>(hch c z).2.2.1 x c e rfl;by_cases hc:c∈X.fs
  ·obtain ⟨sl,q⟩:=slot c o (I.cne x c e) hc nch ho (I.freeC x c e);exact ⟨_,q,hd⟩
  ·exact ⟨o,keep c o (I.cne x c e) hc nch ho (I.freeC x c e),hd⟩
 refine ⟨I.ok,I.os,hg,⟨fun b o e n hb hx=>?_,fun b o e n hb hx=>?_,fun b o e n hx=>?_,fun b o e hx=>?_,fun b xs e=>tups b xs (I.base.tups b xs e),fun b o xs e=>frzs b o xs (I.base.frzs b o xs e),fun b ps e=>?_⟩,?_,fun x c e=>?_,?_,fun x c e=>?_,fun p hp=>?_,hok,I.len⟩
 ·exact keep b o (neL b o e) hb (neC b o e hx) (I.base.keep b o e n hb hx) (I.base.free b o e n hx)
 ·obtain ⟨sl,e1⟩:=I.base.slot b o e n hb hx;obtain ⟨sl',e2⟩:=slot b _ (neL b o e) hb (neC b o e hx) e1 (I.base.free b o e n hx);exact ⟨sl',e2⟩
 ·obtain ⟨o',e1⟩:=I.base.there b o e hx;exact free b o' (neC b o e hx) e1 (I.base.free b o e n hx)
 ·obtain ⟨o',e1⟩:=I.base.there b o e hx;exact there b o' (neC b o e hx) e1
 ·obtain ⟨m1,e1⟩:=I.base.tbls b ps e;obtain ⟨m2,e2⟩:=tbls b _ e1;exact ⟨m1++m2,by rw [e2,Array.append_assoc]⟩
 ·obtain ⟨m,hn,hl⟩:=I.loc;refine ⟨m,ns m hn,fun i x v e1 e2 e3=>?_⟩;obtain ⟨u,r,l⟩:=hl i x v e1 e2 e3;refine ⟨u,r,?_⟩;rcases l with l | ⟨k,c,e,z⟩
  ·exact .inl l
  ·exact .inr ⟨k,c,e,cellK x c e _ z⟩
 ·obtain ⟨v,z⟩:=I.cell x c e;exact ⟨v,cellK x c e v z⟩
 ·obtain ⟨m,⟨o,_,_,ho,_⟩,_⟩:=I.loc;exact free _ o (fun z=>(hch _ z).2.1 rfl) ho I.free
 ·obtain ⟨v,o,ho,hd⟩:=I.cell x c e;exact free c o (fun z=>(hch c z).2.2.1 x c e rfl) ho (I.freeC x c e)
 ·obtain ⟨e,n,ne,nf,d⟩:=I.pin p hp;have nch:p.1 ∉ ch:=fun z=>(hch p.1 z).2.2.2 p hp rfl;exact ⟨keep p.1 p.2 ne nf nch e n,free p.1 p.2 nch e n,ne,nf,d⟩
def Inv.un {t':Nat} (I:Inv X pins σ H s) (u:Un X.fs [] H H' s.heap h') (hok:HOk X.prog X.w H' h'):Inv X pins σ H' { s with heap:=h',toks:=t' }:=by
 obtain ⟨m,⟨o,es,ep,ho,r⟩,_⟩:=id I.loc;obtain ⟨sl,hL⟩:=u.any ho I.free (by simp);exact I.step (g':=s.gens) (d':=s.drawn) (ch:=[]) (fun _ z=>nomatch z) (fun b o _ hb _ e n=>u.keep b o e n hb (by simp)) (fun b o _ hb _ e n=>u.slot b o e n hb (by simp)) (fun b o _ e n=>u.free b o e n (by simp)) (fun b o _ e=>u.there b o e (by simp)) u.tups u.frzs u.tbls (fun m' hm=>by
  obtain ⟨o',es',ep',ho',r'⟩:=hm;rw [ho] at ho'; cases ho';exact ⟨_,es',ep',hL,r'⟩) hok I.bare
def Inv.call {g':Array GenState} {t':Nat} {d':Drawn} {ch:List Addr} (I:Inv X pins σ H s) (u:Un (frs X.stack) ch H H' s.heap h') (hok:HOk X.prog X.w H' h') (hg:AllBare g')
  (hch:∀ b∈ch,(b∈X.ex\/X.s₀.heap.objs.size<=b)/\b≠X.env.locals/\(∀ x c,X.env.cells.lookup x=some c->c≠b)/\∀ p∈X.pn++pins,p.1≠b) :
  Inv X pins σ H' { s with heap:=h',gens:=g',drawn:=d',toks:=t' }:=by
 obtain ⟨m,⟨o,es,ep,ho,r⟩,_⟩:=id I.loc;obtain ⟨sl,hL⟩:=u.any ho I.free fun z=>(hch _ z).2.1 rfl;exact I.step (ch:=ch) hch (fun b o hL hb hc e n=>u.keep b o e n (fun z=>(zay.mp (I.stkSub b z)).elim hL hb) hc) (fun b o _ _ hc e n=>u.any e n hc) (fun b o hc e n=>u.free b o e n hc) (fun b o hc e=>u.there b o e hc) u.tups u.frzs u.tbls (fun m' hm=>by
  obtain ⟨o',es',ep',ho',r'⟩:=hm;rw [ho] at ho'; cases ho';exact ⟨_,es',ep',hL,r'⟩) hok hg
def Inv.turned {t':Nat} {it:Addr} (I:Inv X pins σ H s) (k:∀ b o,b≠it->s.heap.get? b=some o->h'.get? b=some o) (hn:H it=none) (hL:it≠X.env.locals)
  (h1:it∈X.ex\/X.s₀.heap.objs.size<=it) (h2:∀ x c,X.env.cells.lookup x=some c->c≠it) (h3:∀ p∈X.pn++pins,p.1≠it):Inv X pins σ H { s with heap:=h',toks:=t' }:=by
 have nit:∀ b u,H b=some u->b≠it:=fun b u e z=>by rw [z,hn] at e; cases e
 refine I.step (g':=s.gens) (d':=s.drawn) (ch:=[it]) (fun b hb=>?_) (fun b o _ _ hc e _=>k b o (fun z=>hc (by simp [z])) e) (fun b o _ _ hc e _=>⟨o.slots,k b o (fun z=>hc (by simp [z])) e⟩) (fun _ _ _ _ n=>n)
  (fun b o hc e=>⟨o,k b o (fun z=>hc (by simp [z])) e⟩) (fun _ _ e=>e) (fun _ _ _ e=>e) (fun b ps e=>⟨#[],by rw [e]; simp⟩) (fun m hm=>?_) (fun b u e=>?_) I.bare
 ·have e:b=it:=by simpa using hb
  subst e;exact ⟨h1,hL,h2,h3⟩
 ·obtain ⟨o,es,ep,ho,r⟩:=hm;exact ⟨o,es,ep,k _ o (Ne.symm hL) ho,r⟩
 ·refine (I.hok b u e).stay (fun c v hc q=>k c v ?_ q) (fun _ q=>q) fun _ _ q=>q;rcases hc with z | z
  ·rw [z]; exact nit b u e
  ·exact nit c _ z
def Inv.tok (I:Inv X pins σ H s) (t:Nat):Inv X pins σ H { s with toks:=t }:=I.un (h':=s.heap) (t':=t) Un.refl I.hok
def Inv.kept {t':Nat} (I:Inv X pins σ H s) (k:∀ b u,s.heap.get? b=some u->h'.get? b=some u):Inv X pins σ H { s with heap:=h',toks:=t' }:=I.un (Un.kept k) (I.hok.kept k)
def Inv.laid {a:Addr} {o:HO} {t':Nat} (I:Inv X pins σ H s) (k:∀ b u,s.heap.get? b=some u->h'.get? b=some u) (hp:s.heap.objs.size<=a) (new:ObjOk X.prog X.w (upd H a o) h' a o) :
  Inv X pins σ (upd H a o) { s with heap:=h',toks:=t' }:=I.un (Un.laid k hp (I.hok.fresh hp)) (I.hok.laid k hp new)
def Inv.write {x e:Addr} {o:HO} {t':Nat} (I:Inv X pins σ H s) (mu:Mut (H x)) (he:e=x\/H e=some (.own x)) (k:∀ b u,b≠e->s.heap.get? b=some u->h'.get? b=some u) (heo:∃ u,h'.get? e=some u)
  (new:ObjOk X.prog X.w (upd H x o) h' x o):Inv X pins σ (upd H x o) { s with heap:=h',toks:=t' }:=I.un (Un.write mu he k heo) (I.hok.write mu he k heo new)
def Inv.pins_of {pins':List (Addr × Obj)} (I:Inv X pins σ H s) (h:∀ p∈pins',s.heap.get? p.1=some p.2/\H p.1=none/\p.1≠X.env.locals/\p.1 ∉ X.fs/\∀ v,p.2.data≠.cell v):Inv X pins' σ H s :=
 ⟨I.ok,I.os,I.bare,I.base,I.loc,I.cell,I.free,I.freeC,fun p hp=>(zax.mp hp).elim (fun z=>I.pin p (List.mem_append_left _ z)) (h p),I.hok,I.len⟩
def ny {N:List Str} (hN:N.Nodup) {i j:Nat} {x:Str} (a:N[i]?=some x) (b:N[j]?=some x):i=j:=by
 obtain ⟨h1,e1⟩:=zah.mp a;obtain ⟨h2,e2⟩:=zah.mp b;exact (List.getElem_inj hN).mp (e1.trans e2.symm)
def mt {M:Model} {A:Around} {E:Value->Shared->Prop} {i:Nat} {x:Str} {v:V} {u:Value} {Q:Unit->Shared->Prop} (I:Inv X pins σ H s) (hN:X.N.Nodup) (hi:X.N[i]?=some x) (hx:Loc X.env.scope x) (r:RelV v u)
  (h:∀ s',Inv X pins (σ.set i (some v)) H s'->(∃ a,Heap.SameBut a s.heap s'.heap/\(a=X.env.locals\/X.env.cells.lookup x=some a))->Q () s') (hf:X.fn x=true\/X.env.scope.names.lookup x=some .local:=by first | exact .inl rfl | exact .inr rfl | assumption):wpAny M A (storeName X.env x u) Q E s:=by
 obtain ⟨m,hn,hl⟩:=id I.loc;have hcls:(X.env.scope.kind == .class || (X.env.scope.kind == .module && X.env.locals != X.env.globals))=false:=by rw [I.ok.kind]; rfl
 have hiσ:i < σ.length:=by rw [I.len]; exact (zah.mp hi).1
 have cne:=I.cne;have tracked:∀ {a:Addr} {h':Heap},(∃ o,s.heap.get? a=some o/\H a=none)->Heap.SameBut a s.heap h'->HOk X.prog X.w H h':=fun {a h'} ha hs b ob e=>by
  obtain ⟨_,_,hfree⟩:=ha;refine (I.hok b ob e).stay (fun c w' hc q=>(hs.2 c ?_).trans q) (fun _ q=>q) fun _ _ q=>q;rintro rfl;rcases hc with rfl | hc
  ·rw [hfree] at e; cases e
  ·rw [hfree] at hc; cases hc
 rcases hx with hk | hk
 ·refine wpAny_storeName_local hk hn (fun h' hn' hs=>?_) hcls;obtain ⟨oL,_,_,hoL,_⟩:=id hn;refine h _ ⟨I.ok,I.os,I.bare,⟨fun b o e n hb hx=>?_,fun b o e n hb hx=>?_,I.base.free,fun b o e hx=>?_,I.base.tups,I.base.frzs,I.base.tbls⟩,⟨_,hn',fun j y v' e1 e2 e3=>?_⟩,fun y c e=>?_,I.free,I.freeC,fun p hp=>?_,tracked ⟨oL,hoL,I.free⟩ hs,by simpa using I.len⟩ ⟨_,hs,.inl rfl⟩
  ·exact (hs.2 b (zaw (zag (zal e) I.ok.above))).trans (I.base.keep b o e n hb hx)
  ·obtain ⟨sl,e1⟩:=I.base.slot b o e n hb hx;exact ⟨sl,(hs.2 b (zaw (zag (zal e) I.ok.above))).trans e1⟩
  ·obtain ⟨o',e1⟩:=I.base.there b o e hx;exact ⟨o',(hs.2 b (zaw (zag (zal e) I.ok.above))).trans e1⟩
  ·by_cases hj:j=i
   ·subst hj;rw [hi] at e1; cases e1;rw [zaP hiσ] at e2;cases e2;exact ⟨u,r,.inl ⟨hk,by simp⟩⟩
   ·rw [zaO (Ne.symm hj)] at e2;obtain ⟨u',r',q⟩:=hl j y v' e1 e2 e3;refine ⟨u',r',?_⟩;rcases q with ⟨k,e⟩ | ⟨k,c,e,z⟩
    ·refine .inl ⟨k,?_⟩
     have:y≠x:=fun e=>hj (ny hN e1 (e ▸ hi));simp [this,e]
    ·exact .inr ⟨k,c,e,z.sameBut hs (cne y c e)⟩
  ·obtain ⟨w',z⟩:=I.cell y c e;exact ⟨w',z.sameBut hs (cne y c e)⟩
  ·obtain ⟨e,n,ne,nf,d⟩:=I.pin p hp;exact ⟨(hs.2 p.1 ne).trans e,n,ne,nf,d⟩
 ·have hfn:X.fn x=true:=by
   rcases hf with z | z
   ·exact z
   ·rw [z] at hk; cases hk
  obtain ⟨c,hc⟩:=I.ok.has x (.inl hk);obtain ⟨w',z⟩:=I.cell x c hc;refine wpAny_storeName_cell I.ok.kind hk hc z (fun h' hc' hs=>?_);obtain ⟨oc,hoc,hocd⟩:=id z;refine h { s with heap:=h' } ⟨I.ok,I.os,I.bare,⟨fun b o e n hb hx=>?_,fun b o e n hb hx=>?_,I.base.free,fun b o e hx=>?_,I.base.tups,I.base.frzs,I.base.tbls⟩,⟨m,hn.sameBut hs (Ne.symm (cne x c hc)),fun j y v' e1 e2 e3=>?_⟩,fun y c' e=>?_,I.free,I.freeC,fun p hp=>?_,tracked ⟨oc,hoc,I.freeC x c hc⟩ hs,by simpa using I.len⟩ ⟨c,hs,.inr hc⟩
  ·exact (hs.2 b (zaw (zag (zal e) (I.ok.cab x c hfn hc)))).trans (I.base.keep b o e n hb hx)
  ·obtain ⟨sl,e1⟩:=I.base.slot b o e n hb hx;exact ⟨sl,(hs.2 b (zaw (zag (zal e) (I.ok.cab x c hfn hc)))).trans e1⟩
  ·obtain ⟨o',e1⟩:=I.base.there b o e hx;exact ⟨o',(hs.2 b (zaw (zag (zal e) (I.ok.cab x c hfn hc)))).trans e1⟩
  ·by_cases hj:j=i
   ·subst hj;rw [hi] at e1; cases e1;rw [zaP hiσ] at e2;cases e2;exact ⟨u,r,.inr ⟨.inl hk,c,hc,hc'⟩⟩
   ·rw [zaO (Ne.symm hj)] at e2;obtain ⟨u',r',q⟩:=hl j y v' e1 e2 e3;refine ⟨u',r',?_⟩;rcases q with q | ⟨k,c',e,z'⟩
    ·exact .inl q
    ·refine .inr ⟨k,c',e,z'.sameBut hs ?_⟩;rintro rfl;exact hj (ny hN e1 (I.ok.inj _ _ _ e hc ▸ hi))
  ·by_cases hcc:c'=c
   ·subst hcc; exact ⟨_,hc'⟩
   ·obtain ⟨w2,z2⟩:=I.cell y c' e;exact ⟨w2,z2.sameBut hs hcc⟩
  ·obtain ⟨e,n,ne,nf,d⟩:=I.pin p hp;refine ⟨(hs.2 p.1 ?_).trans e,n,ne,nf,d⟩;intro q;rw [q,hoc] at e;have q':oc=p.2:=zat e;exact d w' (by rw [<- q']; exact hocd)
def m7 {M:Model} {A:Around} {E:Value->Shared->Prop} {i:Nat} {x:Str} {v:V} {u:Value} {Q:Unit->Shared->Prop} (I:Inv X pins σ H s) (hN:X.N.Nodup) (hi:X.N[i]?=some x) (hx:Loc X.env.scope x) (r:RelV v u)
  (h:∀ s',Inv X pins (σ.set i (some v)) H s'->Q () s') (hf:X.fn x=true\/X.env.scope.names.lookup x=some .local:=by first | exact .inl rfl | exact .inr rfl | assumption):wpAny M A (storeName X.env x u) Q E s :=
 mt I hN hi hx r (fun s' I' _=>h s' I') hf
def Inv.call' {s':Shared} {ch:List Addr} (I:Inv X pins σ H s) (ho:s'.os=s.os) (u:Un (frs X.stack) ch H H' s.heap s'.heap) (hok:HOk X.prog X.w H' s'.heap) (hg:AllBare s'.gens)
  (hch:∀ b∈ch,(b∈X.ex\/X.s₀.heap.objs.size<=b)/\b≠X.env.locals/\(∀ x c,X.env.cells.lookup x=some c->c≠b)/\∀ p∈X.pn++pins,p.1≠b):Inv X pins σ H' s':=by
 obtain ⟨h',g',d',t',o'⟩:=s';have e:o'=s.os:=ho;subst e;exact I.call (g':=g') (t':=t') (d':=d') u hok hg hch
end
abbrev XK:=Value->Option Addr->Hp->Prop
abbrev St:=List (Option V)
abbrev VK:=V->Hp->Prop
abbrev TE:=St->Hp->VK->Prop
abbrev TT:=St->Hp->(Bool->Hp->Prop)->Prop
abbrev TA:=St->Hp->(List V->Hp->Prop)->Prop
structure Ends where
 nx:St->Hp->Prop
 rt:VK
 bk:St->Hp->Prop:=fun _ _=>False
 ct:St->Hp->Prop:=fun _ _=>False
abbrev TS:=Ends->St->Hp->Prop
def EP (X:Cx) (pins:List (Addr × Obj)) (σ:St) (Q:VK) (u:Value) (s':Shared):Prop:=∃ v H',Inv X pins σ H' s'/\RelV v u/\Q v H'
def TP (X:Cx) (pins:List (Addr × Obj)) (σ:St) (Q:Bool->Hp->Prop) (b:Bool) (s':Shared):Prop:=∃ H',Inv X pins σ H' s'/\Q b H'
def AP (X:Cx) (pins:List (Addr × Obj)) (σ:St) (Q:List V->Hp->Prop) (us:List Value) (s':Shared):Prop:=∃ vs H',Inv X pins σ H' s'/\Vals vs us/\Q vs H'
def SP (X:Cx) (pins:List (Addr × Obj)) (D:Ends) (f:Flow) (s':Shared):Prop :=
 match f with
 | .next=>∃ σ' H',Inv X pins σ' H' s'/\D.nx σ' H'
 | .brk=>∃ σ' H',Inv X pins σ' H' s'/\D.bk σ' H'
 | .cont=>∃ σ' H',Inv X pins σ' H' s'/\D.ct σ' H'
 | .ret u=>∃ v σ' H',Inv X pins σ' H' s'/\RelV v u/\D.rt v H'
def PE (X:Cx) (e:Expr) (t:TE):Prop :=
 ∀ (pins:List (Addr × Obj)) (s:Shared) (σ:St) (H:Hp) (Q:VK),Inv X pins σ H s->t σ H Q->wpAny (model X.prog X.w) X.A (eval e X.env) (EP X pins σ Q) X.xe s
def PT (X:Cx) (e:Expr) (t:TT):Prop :=
 ∀ (pins:List (Addr × Obj)) (s:Shared) (σ:St) (H:Hp) (Q:Bool->Hp->Prop),Inv X pins σ H s->t σ H Q->wpAny (model X.prog X.w) X.A (isTrue e X.env (eval e X.env)) (TP X pins σ Q) X.xe s
def PW (X:Cx) (e:Expr) (t:TT):Prop :=
 ∀ (whole:Sem Value) (pins:List (Addr × Obj)) (s:Shared) (σ:St) (H:Hp) (Q:Bool->Hp->Prop),Inv X pins σ H s->t σ H Q->wpAny (model X.prog X.w) X.A (isTrue e X.env whole) (TP X pins σ Q) X.xe s
def PW.pt {X:Cx} {e:Expr} {t:TT} (h:PW X e t):PT X e t:=h _
def PA (X:Cx) (es:List Expr) (t:TA):Prop :=
 ∀ (pos:Pos) (pins:List (Addr × Obj)) (s:Shared) (σ:St) (H:Hp) (Q:List V->Hp->Prop),Inv X pins σ H s->t σ H Q->wpAny (model X.prog X.w) X.A (spliced (backTo pos (starEach es X.env))) (AP X pins σ Q) X.xe s
def PS (X:Cx) (st:Stmt) (t:TS):Prop :=
 ∀ (pins:List (Addr × Obj)) (s:Shared) (σ:St) (H:Hp) (D:Ends),Inv X pins σ H s->t D σ H->wpAny (model X.prog X.w) X.A (exec st X.env) (SP X pins D) X.xe s
def PSs (X:Cx) (st:List Stmt) (t:TS):Prop :=
 ∀ (pins:List (Addr × Obj)) (s:Shared) (σ:St) (H:Hp) (D:Ends),Inv X pins σ H s->t D σ H->wpAny (model X.prog X.w) X.A (execs st X.env) (SP X pins D) X.xe s
def thn {α:Type} {t:Sem α} {Q Q':α->Shared->Prop} {M:Model} {A:Around} {E:Value->Shared->Prop} {s:Shared} (h:wpAny M A t Q E s) (hQ:∀ a s,Q a s->Q' a s):wpAny M A t Q' E s:=wpAny_mono h hQ fun _ _ x=>x
section
variable {X:Cx}
def eZ (i:Nat):TE:=fun σ H Q=>∃ v,σ[i]?=some (some v)/\Q v H
def tC (v:V):TE:=fun _ H Q=>Q v H
def bQ {i:Nat} {x:Str} {pos:Pos} (hN:X.N[i]?=some x) (hv:Vis X.env.scope x) (hd:(x == ("__debug__" : Str))=false:=by decide) (hcd:(x == ("__classdict__" : Str))=false:=by decide):PE X (.Name x pos) (eZ i):=by
 intro pins s σ H Q I h;obtain ⟨v,e,h⟩:=h;obtain ⟨m,hn,hl⟩:=I.loc;obtain ⟨u,r,l⟩:=hl i x v hN e hv;have fin:EP X pins σ Q u s:=⟨v,H,I,r,h⟩;rcases l with ⟨hk,hm⟩ | ⟨hk,c,hc,hcell⟩
 ·exact wpAny_Name (wpAny_loadName_local I.ok.kind hk hn hm fin) hd
 ·rcases hk with hk | hk
  ·exact wpAny_Name (wpAny_loadName_cell I.ok.kind hk hc hcell fin) hd
  ·exact wpAny_Name (wpAny_loadName_free I.ok.kind hk hc hcell fin hcd) hd
def pe_int {i j pos}:PE X (.Constant (.int i) j pos) (tC (.int i)):=fun _ _ _ H _ I h=>wpAny_Constant_int ⟨.int i,H,I.tok _,⟨_,rfl⟩,h⟩
def pe_bl {b j pos}:PE X (.Constant (.bool b) j pos) (tC (.bl b)):=fun _ _ _ H _ I h=>Constant_bool ⟨.bl b,H,I,rfl,h⟩
def pe_non {j pos}:PE X (.Constant .none j pos) (tC .non):=fun _ _ _ H _ I h=>Constant_none ⟨.non,H,I,rfl,h⟩
def pe_str {x j pos}:PE X (.Constant (.str x) j pos) (tC (.str x)):=fun _ _ _ H _ I h=>Calls.Constant_str ⟨.str x,H,I.tok _,⟨_,rfl⟩,h⟩
def Gl (X:Cx) (x:Str):Prop:=X.env.kindOf x=some .globalImplicit
def Bh {E:Value->Shared->Prop} {pins:List (Addr × Obj)} {s:Shared} {σ:St} {H:Hp} {x:Str} {u:Value} {pos:Pos} {Q:Value->Shared->Prop} (I:Inv X pins σ H s) (hg:Gl X x) (hm:X.mg x=some u) (h:Q u s)
  (hd:(x == ("__debug__" : Str))=false:=by decide):wpAny (model X.prog X.w) X.A (eval (.Name x pos) X.env) Q E s :=
 Calls.Name_function_global I.ok.kind hg (Calls.loadGlobal_global (by rw [I.ok.glob]; exact I.mod.glob.keeps I.bk) hm h) hd
def eK {E:Value->Shared->Prop} {pins:List (Addr × Obj)} {s:Shared} {σ:St} {H:Hp} {x:Str} {u:Value} {pos:Pos} {Q:Value->Shared->Prop} (I:Inv X pins σ H s) (hg:Gl X x) (hm:X.mg x=none) (hv:bootBuiltins x=some u) (h:Q u s)
  (hn:x≠"__name__":=by decide) (hd:(x == ("__debug__" : Str))=false:=by decide):wpAny (model X.prog X.w) X.A (eval (.Name x pos) X.env) Q E s:=by
 obtain ⟨mb,h1,h2⟩:=I.mod.blt;exact Calls.Name_function_global I.ok.kind hg (Calls.loadGlobal_builtin (by rw [I.ok.glob]; exact I.mod.glob.keeps I.bk) hm (by rw [I.ok.blt]; exact h1.keeps I.bk) ((h2 x hn).trans hv) h) hd
def lF {x:Str} {v:V} {u:Value} {pos:Pos} (hg:Gl X x) (hm:X.mg x=none) (hv:bootBuiltins x=some u) (r:RelV v u) (hn:x≠"__name__":=by decide) (hd:(x == ("__debug__" : Str))=false:=by decide):PE X (.Name x pos) (tC v) :=
 fun _ _ _ H _ I h=>eK I hg hm hv ⟨v,H,I,r,h⟩ hn hd
variable {a b:Expr} {ta tb:TE} {pos:Pos}
def PC (X:Cx) (op:CmpOp) (a b:Expr) (t:TE):Prop :=
 ∀ (pins:List (Addr × Obj)) (s:Shared) (σ:St) (H:Hp) (Q:VK),Inv X pins σ H s->t σ H Q ->
  wpAny (model X.prog X.w) X.A (eval a X.env) (fun v s₁=>wpAny (model X.prog X.w) X.A (eval b X.env) (fun u s₂=>wpAny (model X.prog X.w) X.A (compareOp op v u) (EP X pins σ Q) X.xe s₂) X.xe s₁) X.xe s
def um (b:Expr) {op:CmpOp} (h:op≠.In) (h2:op≠.NotIn):behindInMarks op b=false:=by
 have e1:(op == CmpOp.In)=false:=by cases op <;> first | rfl | exact absurd rfl h
 have e2:(op == CmpOp.NotIn)=false:=by cases op <;> first | rfl | exact absurd rfl h2
 cases b <;> simp [behindInMarks,e1,e2]
def tB (t:TE):TT:=fun σ H Q=>t σ H fun x H1=>∃ c,x=.bl c/\Q c H1
def Ez {op:CmpOp} {t:TE} (h:PC X op a b t) (h1:behindInMarks op b=false:=by first | exact um _ (by decide) (by decide) | rfl):PT X (.Compare a [op] [b] pos) (tB t):=by
 intro pins s σ H Q I hw;refine wpAny_isTrue_Compare1 (thn (h pins s σ H _ I hw) fun v s1 h1=>thn h1 fun u s2 h2=>thn h2 fun c s3 ⟨x,H1,I1,r1,q1⟩=>?_) h1;obtain ⟨d,rfl,q⟩:=q1;cases r1;exact wpAny_truthy_bool ⟨H1,I1,q⟩
def Ex {e:Expr} {t:TE} (h:PE X e t) (he:∀ whole,isTrue e X.env whole=(do let v <- whole; standAt e.pos; holding [v] (truthy v)):=by intro _; rfl):PT X e (tB t):=by
 intro pins s σ H Q I hw;refine isTrue_plain (thn (h pins s σ H _ I hw) fun v s1 ⟨x,H1,I1,r1,q1⟩=>?_) (he _);obtain ⟨d,rfl,q⟩:=q1;cases r1;exact wpAny_truthy_bool ⟨H1,I1,q⟩
variable {tA tB':TT} {rest:List Expr}
def Ek (t u:TT):TT:=fun σ H Q=>t σ H fun c H1=>if c=true then u σ H1 Q else Q false H1
def tOr (t u:TT):TT:=fun σ H Q=>t σ H fun c H1=>if c=true then Q true H1 else u σ H1 Q
def Ee (t:TT):TT:=fun σ H Q=>t σ H fun c H1=>Q (!c) H1
def AR (ha:PT X a tA):PW X (.BoolOp .And [a] pos) tA:=by
 intro wh pins s σ H Q I h;refine isTrue_and (thn (ha pins s σ H Q I h) fun c s1 e=>?_);cases c with
 | true=>exact isTrue_and_nil e
 | false=>exact e
def Ev (ha:PT X a tA):PW X (.BoolOp .Or [a] pos) tA:=by
 intro wh pins s σ H Q I h;refine isTrue_or (thn (ha pins s σ H Q I h) fun c s1 e=>?_);cases c with
 | false=>exact isTrue_or_nil e
 | true=>exact e
def Ew (ha:PT X a tA) (hb:PW X (.BoolOp .And (b :: rest) pos) tB'):PW X (.BoolOp .And (a :: b :: rest) pos) (Ek tA tB'):=by
 intro wh pins s σ H Q I h;refine isTrue_and (thn (ha pins s σ H _ I h) fun c s1 ⟨H1,I1,q1⟩=>?_);cases c with
 | true=>exact hb wh pins s1 σ H1 Q I1 q1
 | false=>exact ⟨H1,I1,q1⟩
def GD (ha:PT X a tA) (hb:PW X (.BoolOp .Or (b :: rest) pos) tB'):PW X (.BoolOp .Or (a :: b :: rest) pos) (tOr tA tB'):=by
 intro wh pins s σ H Q I h;refine isTrue_or (thn (ha pins s σ H _ I h) fun c s1 ⟨H1,I1,q1⟩=>?_);cases c with
 | true=>exact ⟨H1,I1,q1⟩
 | false=>exact hb wh pins s1 σ H1 Q I1 q1
def Ey (ha:PT X a tA):PT X (.UnaryOp .Not a pos) (Ee tA):=by
 intro pins s σ H Q I h;exact isTrue_not (ha pins s σ H (fun c H1=>Q (!c) H1) I h)
def Al (ta tb:TE):TE:=fun σ H Q=>ta σ H fun x H1=>∃ c,x=.bl c/\if c=true then tb σ H1 Q else Q (.bl false) H1
def Ed (ta tb:TE):TE:=fun σ H Q=>ta σ H fun x H1=>∃ c,x=.bl c/\if c=true then Q (.bl true) H1 else tb σ H1 Q
def Ah (ta:TE):TE:=fun σ H Q=>ta σ H fun x H1=>∃ c,x=.bl c/\Q (.bl (!c)) H1
def EF {op} {t:TE} (h:PE X a t):PE X (.BoolOp op [a] pos) t:=fun pins s σ H Q I hw=>BoolOp_one (h pins s σ H Q I hw)
def EK (ha:PE X a ta) (hb:PE X (.BoolOp .And (b :: rest) pos) tb):PE X (.BoolOp .And (a :: b :: rest) pos) (Al ta tb):=by
 intro pins s σ H Q I h;refine BoolOp_and (thn (ha pins s σ H _ I h) fun v s1 ⟨x,H1,I1,r1,q1⟩=>?_);obtain ⟨c,rfl,q1⟩:=q1;cases r1;refine wpAny_truthy_bool ?_;cases c with
 | true=>exact hb pins s1 σ H1 Q I1 q1
 | false=>exact ⟨.bl false,H1,I1,rfl,q1⟩
def GG (ha:PE X a ta) (hb:PE X (.BoolOp .Or (b :: rest) pos) tb):PE X (.BoolOp .Or (a :: b :: rest) pos) (Ed ta tb):=by
 intro pins s σ H Q I h;refine BoolOp_or (thn (ha pins s σ H _ I h) fun v s1 ⟨x,H1,I1,r1,q1⟩=>?_);obtain ⟨c,rfl,q1⟩:=q1;cases r1;refine wpAny_truthy_bool ?_;cases c with
 | false=>exact hb pins s1 σ H1 Q I1 q1
 | true=>exact ⟨.bl true,H1,I1,rfl,q1⟩
def EG (ha:PE X a ta):PE X (.UnaryOp .Not a pos) (Ah ta):=by
 intro pins s σ H Q I h;refine UnaryOp_ (thn (ha pins s σ H _ I h) fun v s1 ⟨x,H1,I1,r1,q1⟩=>?_);obtain ⟨c,rfl,q1⟩:=q1;cases r1;exact not_of (wpAny_truthy_bool ⟨.bl (!c),H1,I1,rfl,q1⟩)
def tIf (t:TT) (ta tb:TE):TE:=fun σ H Q=>t σ H fun c H1=>if c=true then ta σ H1 Q else tb σ H1 Q
def ui {c:Expr} (hc:PT X c tA) (ha:PE X a ta) (hb:PE X b tb):PE X (.IfExp c a b pos) (tIf tA ta tb):=by
 intro pins s σ H Q I h;refine wpAny_IfExp (thn (hc pins s σ H _ I h) fun d s1 ⟨H1,I1,q1⟩=>?_);cases d with
 | true=>exact ha pins s1 σ H1 Q I1 q1
 | false=>exact hb pins s1 σ H1 Q I1 q1
end
def SqL (K:PySem.W.Frag) (H:Hp) (a:Addr) (xs:List V):Prop :=
 Rd H a (.lst xs) \/
  ∃ (o:Obj) (its:Array Value) (n:Nat),K.lookup a=some o/\o.cls=.type "list"/\o.dict=none/\o.data=.seq its n/\its.size<=sizeLine/\Vals xs its.toList
def SqT (K:PySem.W.Frag) (H:Hp) (a:Addr) (xs:List V):Prop :=
 Rd H a (.tup xs) \/
  ∃ (o:Obj) (its:Array Value) (n:Nat),K.lookup a=some o/\o.cls=.type "tuple"/\o.data=.seq its n/\its.size<=sizeLine/\Vals xs its.toList
def HL:Value->Option V
 | .none=>some .non
 | .bool b=>some (.bl b)
 | .int i _=>some (.int i)
 | .str x _=>some (.str x)
 | .bytes b _=>some (.byt b)
 | .float b _=>some (.flt b)
 | .ref a=>some (.ref a)
 | .type n=>some (.ty n)
 | _=>none
def RelV.abs {x:V} {u:Value} (r:RelV x u):HL u=some x:=by
 cases x with
 | non=>cases r; rfl
 | bl _=>cases r; rfl
 | int _=>obtain ⟨t,rfl⟩:=r; rfl
 | str _=>obtain ⟨t,rfl⟩:=r; rfl
 | byt _=>obtain ⟨t,rfl⟩:=r; rfl
 | flt _=>obtain ⟨t,rfl⟩:=r; rfl
 | ref _=>cases r; rfl
 | ty _=>cases r; rfl
def RelV.inj {x y:V} {u:Value} (r:RelV x u) (q:RelV y u):x=y:=zat (r.abs.symm.trans q.abs)
def Vals.inj:∀ {xs ys:List V} {us:List Value},Vals xs us->Vals ys us->xs=ys
 | _,_,_,.nil,.nil=>rfl
 | _,_,_,.cons r t,.cons r' t'=>by rw [r.inj r',Vals.inj t t']
section
variable {X:Cx} {pins:List (Addr × Obj)} {σ:St} {H:Hp} {s:Shared} {a:Addr} {xs ys:List V}
def SqL.of {K:PySem.W.Frag} (h:H a=some (.lst xs)):SqL K H a xs:=.inl (.inl h)
def SqT.of {K:PySem.W.Frag} (h:H a=some (.tup xs)):SqT K H a xs:=.inl (.inl h)
def Inv.list (I:Inv X pins σ H s) (h:SqL X.K H a xs):∃ its:List Value,Vals xs its/\PlainL s.heap a its.toArray/\xs.length<=sizeLine:=by
 rcases h with h | ⟨o,its,n,hk,hc,hd,hs,hz,r⟩
 ·obtain ⟨z,its,n,r,e⟩:=h.ok I.hok;exact ⟨its,r,⟨_,n,e,rfl,rfl,rfl⟩,z⟩
 ·refine ⟨its.toList,r,⟨o,n,I.kIn a o hk,hc,hd,by simpa using hs⟩,?_⟩;have e:=r.length;simp only [zaY] at e;omega
def Inv.tuple (I:Inv X pins σ H s) (h:SqT X.K H a xs):∃ its:List Value,Vals xs its/\IsTup s.heap a its.toArray/\xs.length<=sizeLine:=by
 rcases h with h | ⟨o,its,n,hk,hc,hs,hz,r⟩
 ·obtain ⟨z,its,r,p⟩:=h.ok I.hok;exact ⟨its,r,p.tup,z⟩
 ·refine ⟨its.toList,r,⟨o,I.kIn a o hk,hc,n,by simpa using hs⟩,?_⟩;have e:=r.length;simp only [zaY] at e;omega
def Inv.list_inj (I:Inv X pins σ H s) (h:SqL X.K H a xs) (h':SqL X.K H a ys):xs=ys:=by
 obtain ⟨its,r,⟨o,n,e,_,_,d⟩,_⟩:=I.list h;obtain ⟨its',r',⟨o',n',e',_,_,d'⟩,_⟩:=I.list h';rw [e] at e'; cases e';rw [d] at d';injection d' with d1 _
 have:its=its':=by simpa using congrArg Array.toList d1
 subst this;exact r.inj r'
def Inv.tuple_inj (I:Inv X pins σ H s) (h:SqT X.K H a xs) (h':SqT X.K H a ys):xs=ys:=by
 obtain ⟨its,r,⟨o,e,_,n,d⟩,_⟩:=I.tuple h;obtain ⟨its',r',⟨o',e',_,n',d'⟩,_⟩:=I.tuple h';rw [e] at e'; cases e';rw [d] at d';injection d' with d1 _
 have:its=its':=by simpa using congrArg Array.toList d1
 subst this;exact r.inj r'
end
abbrev Cx.wish (X:Cx) (E:Value->Shared->Prop):Cx:={ X with xe:=E }
abbrev Cx.nox (X:Cx):Cx:=X.wish fun _ _=>False
def Cx.Ok.wish {X:Cx} (ok:X.Ok) (E:Value->Shared->Prop):(X.wish E).Ok :=
 ⟨ok.mod,ok.kind,ok.glob,ok.blt,ok.above,ok.inj,ok.has,ok.cab,ok.hd,ok.frames,ok.stk,ok.exf,ok.bs,ok.bsz,ok.noex,ok.exfs,ok.funs,ok.frf⟩
def Cx.Ok.unwish {X:Cx} {E:Value->Shared->Prop} (ok:(X.wish E).Ok):X.Ok :=
 ⟨ok.mod,ok.kind,ok.glob,ok.blt,ok.above,ok.inj,ok.has,ok.cab,ok.hd,ok.frames,ok.stk,ok.exf,ok.bs,ok.bsz,ok.noex,ok.exfs,ok.funs,ok.frf⟩
section
variable {X:Cx} {pins:List (Addr × Obj)} {σ:St} {H:Hp} {s:Shared} {E:Value->Shared->Prop}
def Inv.wish (I:Inv X pins σ H s) (E:Value->Shared->Prop):Inv (X.wish E) pins σ H s:=⟨I.ok.wish E,I.os,I.bare,I.base,I.loc,I.cell,I.free,I.freeC,I.pin,I.hok,I.len⟩
def Inv.unwish (I:Inv (X.wish E) pins σ H s):Inv X pins σ H s:=⟨I.ok.unwish,I.os,I.bare,I.base,I.loc,I.cell,I.free,I.freeC,I.pin,I.hok,I.len⟩
def SP.unwish {D:Ends} {f:Flow} {s':Shared} (h:SP (X.wish E) pins D f s'):SP X pins D f s':=by
 cases f with
 | next=>obtain ⟨σ',H',I,q⟩:=h; exact ⟨σ',H',I.unwish,q⟩
 | brk=>obtain ⟨σ',H',I,q⟩:=h; exact ⟨σ',H',I.unwish,q⟩
 | cont=>obtain ⟨σ',H',I,q⟩:=h; exact ⟨σ',H',I.unwish,q⟩
 | ret u=>obtain ⟨v,σ',H',I,r,q⟩:=h; exact ⟨v,σ',H',I.unwish,r,q⟩
def PSs.nox {st:List Stmt} {t:TS} (h:PSs X.nox st t):PSs X st t:=fun pins s σ H D I hw =>
 wpAny_mono (h pins s σ H D (I.wish _) hw) (fun _ _ q=>q.unwish) fun _ _ z=>False.elim z
end
section
variable {X:Cx} {st:Stmt} {rest:List Stmt} {t u:TS} {e:Expr} {te:TE} {pos:Pos}
def Ai:TS:=fun D σ H=>D.nx σ H
def Eb (t u:TS):TS:=fun D σ H=>t { D with nx:=u D } σ H
def pss_nil:PSs X [] Ai:=fun _ _ σ H _ I h=>wpAny_execs_nil ⟨σ,H,I,h⟩
def ud (h1:PS X st t) (h2:PSs X rest u):PSs X (st :: rest) (Eb t u):=by
 intro pins s σ H D I h;refine wpAny_execs_cons (thn (h1 pins s σ H { D with nx:=u D } I h) fun f s1 q=>?_);cases f with
 | next =>
  obtain ⟨σ',H',I',q⟩:=q;exact h2 pins s1 σ' H' D I' q
 | ret v=>exact q
 | brk=>exact q
 | cont=>exact q
def AV (h1:PS X st t):PSs X [st] t:=by
 intro pins s σ H D I h;refine wpAny_execs_cons (thn (h1 pins s σ H D I h) fun f s1 q=>?_);cases f with
 | next=>exact wpAny_execs_nil q
 | ret v=>exact q
 | brk=>exact q
 | cont=>exact q
def Inv.quiet {pins:List (Addr × Obj)} {σ:St} {H:Hp} {s:Shared} (I:Inv X pins σ H s):interactive X.env=false:=by simp [interactive,I.ok.kind]
def Aj (te:TE):TS:=fun D σ H=>te σ H fun _ H1=>D.nx σ H1
def AW (he:PE X e te) (hs:swapsWith e none pos.line X.env=pure false:=by rfl):PS X (.Expr e pos) (Aj te):=by
 intro pins s σ H D I h;exact wpAny_Expr_any (thn (he pins s σ H _ I h) fun v s1 ⟨x,H1,I1,r1,q1⟩=>⟨σ,H1,I1,q1⟩) I.quiet hs
def Ec (te:TE):TS:=fun D σ H=>te σ H D.rt
def EB (he:PE X e te):PS X (.Return (some e) pos) (Ec te):=by
 intro pins s σ H D I h;exact wpAny_Return_some (thn (he pins s σ H _ I h) fun v s1 ⟨x,H1,I1,r1,q1⟩=>⟨x,σ,H1,I1,r1,q1⟩)
def Eh (c:TT) (t u:TS):TS:=fun D σ H=>c σ H fun b H1=>if b=true then t D σ H1 else u D σ H1
def GE {c:Expr} {a b:List Stmt} {tc:TT} (hc:PT X c tc) (ha:PSs X a t) (hb:PSs X b u):PS X (.If c a b pos) (Eh tc t u):=by
 intro pins s σ H D I h;refine wpAny_If (thn (hc pins s σ H _ I h) fun d s1 ⟨H1,I1,q1⟩=>?_);cases d with
 | true=>exact ha pins s1 σ H1 D I1 q1
 | false=>exact hb pins s1 σ H1 D I1 q1
end
abbrev TG:=V->St->Hp->(St->Hp->Prop)->Prop
abbrev TGs:=List V->St->Hp->(St->Hp->Prop)->Prop
def PG (X:Cx) (target:Expr) (t:TG):Prop :=
 ∀ (pins:List (Addr × Obj)) (s:Shared) (σ:St) (H:Hp) (v:V) (u:Value) (Q:St->Hp->Prop),Inv X pins σ H s->RelV v u->t v σ H Q ->
  wpAny (model X.prog X.w) X.A (assign target X.env u) (fun _ s'=>∃ σ' H',Inv X pins σ' H' s'/\Q σ' H') X.xe s
def PGs (X:Cx) (ts:List Expr) (t:TGs):Prop :=
 ∀ (pins:List (Addr × Obj)) (s:Shared) (σ:St) (H:Hp) (vs:List V) (us:List Value) (Q:St->Hp->Prop),Inv X pins σ H s->Vals vs us->t vs σ H Q ->
  wpAny (model X.prog X.w) X.A (assignInOrder ((assignEach ts X.env).map (·.2)) us) (fun _ s'=>∃ σ' H',Inv X pins σ' H' s'/\Q σ' H') X.xe s
abbrev vc:=V->V->V->Hp->(Hp->Prop)->Prop
def Gs (X:Cx) (t:vc):Prop :=
 ∀ (pins:List (Addr × Obj)) (s:Shared) (σ:St) (H:Hp) (o i v:V) (ov iv u:Value) (Q:Hp->Prop),Inv X pins σ H s->RelV o ov->RelV i iv->RelV v u->t o i v H Q ->
  wpAny (model X.prog X.w) X.A (setItem ov iv u) (fun _ s'=>∃ H',Inv X pins σ H' s'/\Q H') X.xe s
section
variable {X:Cx} {pos:Pos}
def kR (i:Nat):TG:=fun v σ H Q=>Q (σ.set i (some v)) H
def A4 {i:Nat} {x:Str} (hN:X.N.Nodup) (hi:X.N[i]?=some x) (hx:Loc X.env.scope x) (hf:X.fn x=true\/X.env.scope.names.lookup x=some .local:=by first | exact .inl rfl | exact .inr rfl | assumption):PG X (.Name x pos) (kR i):=by
 intro pins s σ H v u Q I r h;exact wpAny_assign_Name (m7 I hN hi hx r (fun s' I'=>⟨_,H,I',h⟩) hf)
def Ff:TGs:=fun vs σ H Q=>vs=[]/\Q σ H
def AC (t:TG) (u:TGs):TGs:=fun vs σ H Q=>∃ v r,vs=v :: r/\t v σ H fun σ' H'=>u r σ' H' Q
def pgs_nil:PGs X [] Ff:=by
 intro pins s σ H vs us Q I r h;obtain ⟨e,h⟩:=h;subst e;cases r;exact assignInOrder_nil ⟨σ,H,I,h⟩
def ug {e:Expr} {es:List Expr} {t:TG} {u:TGs} (h1:PG X e t) (h2:PGs X es u)
  (hs:(assignEach (e :: es) X.env).map (·.2)=assign e X.env :: (assignEach es X.env).map (·.2):=by rfl):PGs X (e :: es) (AC t u):=by
 intro pins s σ H vs us Q I r h;obtain ⟨v,vr,e1,h⟩:=h;subst e1;cases r with
 | cons r rr =>
  rw [hs];refine assignInOrder_cons (thn (h1 pins s σ H _ _ _ I r h) fun _ s1 ⟨σ1,H1,I1,q1⟩=>?_);exact h2 pins s1 σ1 H1 _ _ Q I1 rr q1
def Fe (K:PySem.W.Frag) (n:Nat) (t:TGs):TG:=fun v σ H Q=>∃ a xs,v=.ref a/\SqT K H a xs/\xs.length=n/\t xs σ H Q
def EE {es:List Expr} {k:Nat} {t:TGs} {n:Nat} (hc:X.calm=true) (h:PGs X es t)
  (hn:(assignEach es X.env).length=n:=by rfl) (hst:(assignEach es X.env).findIdx? (·.1)=none:=by rfl):PG X (.Tuple es k pos) (Fe X.K n t):=by
 intro pins s σ H v u Q I r hw;obtain ⟨a,xs,e1,hq,hl,hw⟩:=hw;subst e1;cases r;obtain ⟨its,rv,ht,hz⟩:=I.tuple hq;refine assign_Tuple_tuple (I.ok.hd hc) ht (by simp [hn,<- hl,rv.length]) hst fun h' hx=>?_;have I1:Inv X pins σ H { s with heap:=h' }:=I.kept (t':=s.toks) fun b o e=>hx b o (zaw (zal e)) e;exact h pins _ σ H xs _ Q I1 (by simpa using rv) hw
def uI (to ti:TE) (t:vc):TG:=fun v σ H Q=>to σ H fun o H1=>ti σ H1 fun i H2=>t o i v H2 fun H3=>Q σ H3
def rT {o i:Expr} {to ti:TE} {t:vc} (ho:PE X o to) (hi:PE X i ti) (hs:Gs X t)
  (ha:∀ v,assign (.Subscript o i pos) X.env v=(do
   let ov <- holding [v] (eval o X.env);let iv <- holding [v,ov] (eval i X.env)
   standAt pos
   holding [v,ov,iv] (setItem ov iv v)
   release [v,ov,iv] []):=by intro _; rfl):PG X (.Subscript o i pos) (uI to ti t):=by
 intro pins s σ H v u Q I r h;rw [ha];refine zam (wpAny_holding (thn (ho pins s σ H _ I h) fun ov s1 ⟨x,H1,I1,r1,q1⟩=>?_));refine zam (wpAny_holding (thn (hi pins s1 σ H1 _ I1 q1) fun iv s2 ⟨y,H2,I2,r2,q2⟩=>?_));refine zam (wpAny_standAt (zam (wpAny_holding (thn (hs pins s2 σ H2 x y v ov iv u _ I2 r1 r2 r q2) fun _ s3 ⟨H3,I3,q3⟩=>?_))));exact wpAny_release ⟨σ,H3,I3,q3⟩
def lB (te:TE) (g:TG):TS:=fun D σ H=>te σ H fun x H1=>g x σ H1 D.nx
def rQ {tg e:Expr} {te:TE} {g:TG} (he:PE X e te) (hg:PG X tg g) (hs:swapsWithSole [tg] e pos.line X.env=pure false:=by rfl) (hw:swappedStores [tg] e X.env=pure none:=by rfl)
  (h1:(assignEach [tg] X.env).map (·.2)=[assign tg X.env]:=by rfl):PS X (.Assign [tg] e pos) (lB te g):=by
 intro pins s σ H D I h;refine wpAny_Assign_stores (thn (he pins s σ H _ I h) fun v s1 ⟨x,H1,I1,r1,q1⟩=>?_) hs hw;rw [h1];exact thn (hg pins s1 σ H1 x v _ I1 r1 q1) fun _ s2 q=>q
def EA {i:Nat} {x:Str} {e:Expr} {te:TE} {pos':Pos} (hN:X.N.Nodup) (hi:X.N[i]?=some x) (hx:Loc X.env.scope x) (he:PE X e te) (hs:swapsWith e (some (.Name x pos')) pos.line X.env=pure false:=by rfl) (hf:X.fn x=true\/X.env.scope.names.lookup x=some .local:=by first | exact .inl rfl | exact .inr rfl | assumption) :
  PS X (.Assign [.Name x pos'] e pos) (lB te (kR i)):=by
 intro pins s σ H D I h;refine wpAny_Assign_Name (thn (he pins s σ H _ I h) fun v s1 ⟨y,H1,I1,r1,q1⟩=>?_) hs;exact m7 I1 hN hi hx r1 (fun s2 I2=>⟨_,H1,I2,q1⟩) hf
def rG (c:TT) (tb:TS):TS:=fun D σ H=>∃ W:Nat->St->Hp->Prop,(∃ m,W m σ H)/\∀ m σ H,W m σ H ->
 c σ H fun b H1=>if b=true then ∃ N:St->Hp->Prop,(∀ σ' H',N σ' H'->∃ m',m' < m/\W m' σ' H')/\tb { D with nx:=N,ct:=N,bk:=D.nx } σ H1 else D.nx σ H1
def ue {c:Expr} {body:List Stmt} {tc:TT} {tb:TS} (hp:PassesOwn (model X.prog X.w) X.A X.env X.xe) (hc:PT X c tc) (hb:PSs X body tb):PS X (.While c body [] pos) (rG tc tb):=by
 intro pins s σ H D I h;obtain ⟨W,⟨m0,w0⟩,turn⟩:=h;refine wpAny_While (codeAny_whileLoop (fun n s'=>∃ σ' H',Inv X pins σ' H' s'/\W n σ' H') ?_ m0 ⟨σ,H,I,w0⟩);rintro n s1 ⟨σ1,H1,I1,w1⟩;refine wpAny_passesOwn hp (thn (hc pins s1 σ1 H1 _ I1 (turn n σ1 H1 w1)) fun b s2 ⟨H2,I2,q2⟩=>?_);cases b with
 | true =>
  obtain ⟨N,hN,q2⟩:=q2;rw [if_pos rfl];refine wpAny_passesOwn hp (thn (hb pins s2 σ1 H2 _ I2 q2) fun f s3 q3=>?_);cases f with
  | next =>
   obtain ⟨σ3,H3,I3,n3⟩:=q3;obtain ⟨m',hm,w3⟩:=hN σ3 H3 n3;exact ⟨m',hm,σ3,H3,I3,w3⟩
  | cont =>
   obtain ⟨σ3,H3,I3,n3⟩:=q3;obtain ⟨m',hm,w3⟩:=hN σ3 H3 n3;exact ⟨m',hm,σ3,H3,I3,w3⟩
  | brk=>exact q3
  | ret v=>exact q3
 | false =>
  rw [if_neg Bool.false_ne_true];exact wpAny_execs_nil ⟨σ1,H2,I2,q2⟩
end
structure It where
 go:Nat->Hp->Prop
 yld:Nat->Hp->V->Hp->Prop
 stop:Nat->Hp->Prop
def fS (X:Cx) (pins:List (Addr × Obj)) (H:Hp) (b:Addr):Prop :=
 H b=none/\b≠X.env.locals/\b ∉ X.fs/\(b∈X.ex\/X.s₀.heap.objs.size<=b)/\(∀ x c,X.env.cells.lookup x=some c->c≠b)/\∀ p∈X.pn++pins,p.1≠b
def Inv.fpOk {X:Cx} {pins:List (Addr × Obj)} {σ:St} {H H':Hp} {s:Shared} {b:Addr} (I:Inv X pins σ H s) (hb:s.heap.objs.size<=b) (hn:H' b=none):fS X pins H' b:=by
 refine ⟨hn,Nat.ne_of_gt (zag I.lt hb),I.nofs hb,.inr (zau I.sz hb),fun x c e z=>?_,fun p hp z=>?_⟩
 ·obtain ⟨v,q⟩:=I.cell x c e;exact absurd (zag q.lt (by rw [z]; exact hb)) (zaI _)
 ·exact absurd (zag (zal (I.pin p hp).1) (by rw [z]; exact hb)) (zaI _)
structure Turn (P:Program) (w:World) (K:PySem.W.Frag) (tg:Expr) (J:It) (fp:List Addr) (it:Addr) (tn:Nat->Heap->Prop):Prop where
 mem:it∈fp
 obj:∀ i h,tn i h->∀ b∈fp,∃ o,h.get? b=some o/\∀ v,o.data≠.cell v
 keep:∀ i h h',tn i h->(∀ b∈fp,∀ o,h.get? b=some o->h'.get? b=some o)->tn i h'
 item:∀ (X:Cx),X.prog=P->X.w=w->X.K=K->X.calm=true->∀ (i:Nat) (pins:List (Addr × Obj)) (s:Shared) (σ:St) (H:Hp) (E:Value->Shared->Prop),Inv X pins σ H s->(∀ b∈fp,fS X pins H b)->tn i s.heap->J.go i H ->
  wpAny (model P w) X.A (pyNext (.ref it)) (fun r s1=>∃ u,r=some u /\
   wpAny (model P w) X.A (letOwnedTupleGo tg (.ref it) u) (fun _ s2=>∃ x H',Inv X pins σ H' s2/\RelV x u/\J.yld i H x H'/\tn (i+1) s2.heap/\∀ b∈fp,H' b=none) E s1) E s
 done:∀ (X:Cx),X.prog=P->X.w=w->X.K=K->X.calm=true->∀ (i:Nat) (pins:List (Addr × Obj)) (s:Shared) (σ:St) (H:Hp) (E:Value->Shared->Prop),Inv X pins σ H s->(∀ b∈fp,fS X pins H b)->tn i s.heap->J.stop i H ->
  wpAny (model P w) X.A (pyNext (.ref it)) (fun r s1=>r=none/\Inv X pins σ H s1) E s
 self:∀ (A:Around) (i:Nat) (s:Shared) (Q:Value->Shared->Prop) (E:Value->Shared->Prop),tn i s.heap->Q (.ref it) s->wpAny (model P w) A (pyIter (.ref it)) Q E s
abbrev TI:=St->Hp->(It->Hp->Prop)->Prop
def PIE (X:Cx) (pins:List (Addr × Obj)) (σ:St) (tg:Expr) (R:It->Hp->Prop) (itv:Value) (s2:Shared):Prop :=
 ∃ (it:Addr) (fp:List Addr) (tn:Nat->Heap->Prop) (J:It) (H':Hp),itv=.ref it/\Inv X pins σ H' s2/\Turn X.prog X.w X.K tg J fp it tn/\tn 0 s2.heap/\(∀ b∈fp,fS X pins H' b)/\R J H'
def PI (X:Cx) (tg iter:Expr) (wi:TI):Prop :=
 ∀ (pins:List (Addr × Obj)) (s:Shared) (σ:St) (H:Hp) (R:It->Hp->Prop),Inv X pins σ H s->wi σ H R ->
  wpAny (model X.prog X.w) X.A (eval iter X.env) (fun v s1=>wpAny (model X.prog X.w) X.A (pyIter v) (PIE X pins σ tg R) X.xe s1) X.xe s
def kQ {M:Model} {A:Around} {E:Value->Shared->Prop} {s:Shared} {tg:Expr} {it:Addr} {u:Value} {o:Obj} {n:String} {vs:Array Value} {Q:Unit->Shared->Prop} (ho:s.heap.get? it=some o) (hc:o.cls=.type n) (hd:o.data=.fields vs)
  (hn:["enumerate", "zip", "dict_itemiterator", "dict_reverseitemiterator", "odict_iterator", "itertools.zip_longest", "itertools.pairwise"].contains n=false) (hQ:Q () s):wpAny M A (letOwnedTupleGo tg (.ref it) u) Q E s:=by
 unfold letOwnedTupleGo;cases tg <;> first
  | exact zaT hQ
  | (cases u <;> first
    | exact zaT hQ
    | (refine zam (wpAny_load ho ?_)
       rw [hc,hd];show wpAny M A (if (["enumerate", "zip", "dict_itemiterator", "dict_reverseitemiterator", "odict_iterator", "itertools.zip_longest", "itertools.pairwise"].contains n && vs[0]? == some (rawInt _))=true then _ else _) Q E s;rw [if_neg (by intro h; rw [hn,Bool.false_and] at h; cases h)];exact zaT hQ))
def Itl (K:PySem.W.Frag) (a:Addr):It :=
 ⟨fun i H=>∃ xs x,SqL K H a xs/\xs[i]?=some x,fun i H x H'=>H'=H/\∀ xs,SqL K H a xs->xs[i]?=some x,fun i H=>∃ xs,SqL K H a xs/\xs.length<=i⟩
def Itt (K:PySem.W.Frag) (a:Addr):It :=
 ⟨fun i H=>∃ xs x,SqT K H a xs/\xs[i]?=some x,fun i H x H'=>H'=H/\∀ xs,SqT K H a xs->xs[i]?=some x,fun i H=>∃ xs,SqT K H a xs/\xs.length<=i⟩
def Itr (lo:Int) (n:Nat):It:=⟨fun i _=>i < n,fun i H x H'=>H'=H/\x=.int (lo+i),fun i _=>n<=i⟩
def rC {P:Program} {w:World} {K:PySem.W.Frag} {tg:Expr} (a it:Addr):Turn P w K tg (Itl K a) [it] it (fun i h=>h.IsListIter it a i) where
 mem:=by simp
 obj:=fun i h st b hb=>by
  have e:b=it:=by simpa using hb
  subst e;obtain ⟨o,e,c,d⟩:=st;exact ⟨o,e,fun v z=>by rw [d] at z; cases z⟩
 keep:=fun i h h' st k=>st.at fun o e=>k it (by simp) o e
 item:=by
  intro X hP hw hK hc i pins s σ H E I hf st hg;subst hP hw hK;obtain ⟨xs,x,hq,hx⟩:=hg;obtain ⟨its,rv,p,hz⟩:=I.list hq;obtain ⟨u,hu,ru⟩:=rv.get hx;obtain ⟨f0,f1,f2,f3,f4,f5⟩:=hf it (by simp);refine wpAny_pyNext_list_item st p.isList (x:=u) (by simpa using hu) fun h' st' sb=>?_;have I1:Inv X pins σ H { s with heap:=h' }:=I.turned (t':=s.toks) (fun b o hb e=>(sb.2 b hb).trans e) f0 f1 f3 f4 f5;obtain ⟨o,e,c,d⟩:=id st';exact ⟨u,rfl,kQ (s:={ s with heap:=h' }) e c d (by decide) ⟨x,H,I1,ru,⟨rfl,fun ys hy=>by rw [I.list_inj hy hq]; exact hx⟩,st',fun b hb=>(hf b hb).1⟩⟩
 done:=by
  intro X hP hw hK hc i pins s σ H E I hf st hg;subst hP hw hK;obtain ⟨xs,hq,hx⟩:=hg;obtain ⟨its,rv,p,hz⟩:=I.list hq;obtain ⟨f0,f1,f2,f3,f4,f5⟩:=hf it (by simp);have hl:=rv.length;exact wpAny_pyNext_list_end (I.ok.hd hc) st p.isList (by simp; omega) fun h' eb=>⟨rfl,I.turned (t':=s.toks) (fun b o hb e=>eb b o hb e) f0 f1 f3 f4 f5⟩
 self:=fun _ _ _ _ _ st h=>wpAny_pyIter_listiter st h
def qk {P:Program} {w:World} {K:PySem.W.Frag} {tg:Expr} (a it:Addr):Turn P w K tg (Itt K a) [it] it (fun i h=>h.IsTupleIter it a i) where
 mem:=by simp
 obj:=fun i h st b hb=>by
  have e:b=it:=by simpa using hb
  subst e;obtain ⟨o,e,c,d⟩:=st;exact ⟨o,e,fun v z=>by rw [d] at z; cases z⟩
 keep:=fun i h h' st k=>st.at fun o e=>k it (by simp) o e
 item:=by
  intro X hP hw hK hc i pins s σ H E I hf st hg;subst hP hw hK;obtain ⟨xs,x,hq,hx⟩:=hg;obtain ⟨its,rv,p,hz⟩:=I.tuple hq;obtain ⟨u,hu,ru⟩:=rv.get hx;obtain ⟨f0,f1,f2,f3,f4,f5⟩:=hf it (by simp);refine wpAny_pyNext_tuple_item st (show s.heap.IsTuple a its.toArray from p) (x:=u) (by simpa using hu) fun h' st' sb=>?_;have I1:Inv X pins σ H { s with heap:=h' }:=I.turned (t':=s.toks) (fun b o hb e=>(sb.2 b hb).trans e) f0 f1 f3 f4 f5;obtain ⟨o,e,c,d⟩:=id st';exact ⟨u,rfl,kQ (s:={ s with heap:=h' }) e c d (by decide) ⟨x,H,I1,ru,⟨rfl,fun ys hy=>by rw [I.tuple_inj hy hq]; exact hx⟩,st',fun b hb=>(hf b hb).1⟩⟩
 done:=by
  intro X hP hw hK hc i pins s σ H E I hf st hg;subst hP hw hK;obtain ⟨xs,hq,hx⟩:=hg;obtain ⟨its,rv,p,hz⟩:=I.tuple hq;obtain ⟨f0,f1,f2,f3,f4,f5⟩:=hf it (by simp);have hl:=rv.length;exact wpAny_pyNext_tuple_end (I.ok.hd hc) st (show s.heap.IsTuple a its.toArray from p) (by simp; omega) fun h' eb=>⟨rfl,I.turned (t':=s.toks) (fun b o hb e=>eb b o hb e) f0 f1 f3 f4 f5⟩
 self:=fun _ _ _ _ _ st h=>wpAny_pyIter_tupleiter st h
def ql {P:Program} {w:World} {K:PySem.W.Frag} {tg:Expr} (it:Addr) (lo:Int) (n:Nat):Turn P w K tg (Itr lo n) [it] it (fun i h=>IsRangeIter h it (lo+(i:Nat) * 1) ((n:Int) - (i:Nat)) 1) where
 mem:=by simp
 obj:=fun i h st b hb=>by
  have e:b=it:=by simpa using hb
  subst e;exact ⟨_,st,fun v z=>by
   have z':Data.fields _=Data.cell v:=z;cases z'⟩
 keep:=fun i h h' st k=>k it (by simp) _ st
 item:=by
  intro X hP hw hK hc i pins s σ H E I hf st hg;subst hP hw hK;obtain ⟨f0,f1,f2,f3,f4,f5⟩:=hf it (by simp);have W:=Walks.range (prog:=X.prog) (w:=X.w) (I.ok.hd hc) it lo 1 n;refine W.item i s _ _ hg st fun v h' tk hv st' kk=>?_;obtain ⟨t,rfl⟩:=hv;have I1:Inv X pins σ H { s with heap:=h',toks:=tk }:=I.turned (fun b o hb e=>kk b o (by simpa using hb) e) f0 f1 f3 f4 f5;refine ⟨_,rfl,kQ (s:={ s with heap:=h',toks:=tk }) (n:="range_iterator") st' rfl rfl (by decide) ⟨.int (lo+i),H,I1,⟨t,?_⟩,⟨rfl,rfl⟩,st',fun b hb=>(hf b hb).1⟩⟩;rw [Int.mul_one]
 done:=by
  intro X hP hw hK hc i pins s σ H E I hf st hg;subst hP hw hK;obtain ⟨f0,f1,f2,f3,f4,f5⟩:=hf it (by simp);exact wpAny_pyNext_range_end (I.ok.hd hc) st (by have:n<=i:=hg; omega) fun h' eb=>⟨rfl,I.turned (t':=s.toks) (fun b o hb e=>eb b o hb e) f0 f1 f3 f4 f5⟩
 self:=fun _ _ _ _ _ st h=>wpAny_pyIter_rangeiter st h
section
variable {X:Cx} {tg:Expr}
def ub {pins:List (Addr × Obj)} {σ:St} {H:Hp} {s:Shared} {R:It->Hp->Prop} {E:Value->Shared->Prop} {lo hi:Int} {t u v:Tok} {tk:Nat} (I:Inv X pins σ H s) (h1:-(2 ^ 62)<=lo) (h2:lo < 2 ^ 62) (h3:-(2 ^ 62)<=hi) (h4:hi < 2 ^ 62)
  (q:R (Itr lo (hi - lo).toNat) H):wpAny (model X.prog X.w) X.A (pyIter (.ref s.heap.objs.size)) (PIE X pins σ tg R) E { s with heap:=s.heap.push { cls:=.type "range",data:=.fields #[.int lo t,.int hi u,.int 1 v] },toks:=tk }:=by
 refine wpAny_pyIter_range (IsRange.new ..) (small_one h1 h2 h3 h4) ?_;have I1:Inv X pins σ H { s with heap:=s.heap.push { cls:=.type "range",data:=.fields #[.int lo t,.int hi u,.int 1 v] },toks:=tk }:=I.kept fun b o e=>zaf _ e;refine ⟨(s.heap.push { cls:=.type "range",data:=.fields #[.int lo t,.int hi u,.int 1 v] }).objs.size,[(s.heap.push { cls:=.type "range",data:=.fields #[.int lo t,.int hi u,.int 1 v] }).objs.size],_,_,H,rfl,
  I1.kept (t':=tk) fun b o e=>zaf _ e,ql _ lo (hi - lo).toNat,?_,fun b hb=>?_,q⟩
 ·have e1:lo+((0:Nat):Int) * 1=lo:=by simp
  have e2:(((hi - lo).toNat:Nat):Int) - ((0:Nat):Int)=Builtin.Range.rangeSize lo hi 1:=by rw [rangeSize_one]; split <;> omega
  show IsRangeIter _ _ (lo+((0:Nat):Int) * 1) ((((hi - lo).toNat:Nat):Int) - ((0:Nat):Int)) 1;rw [e1,e2];exact zan _ rfl
 ·have e:b=(s.heap.push { cls:=.type "range",data:=.fields #[.int lo t,.int hi u,.int 1 v] }).objs.size:=by simpa using hb
  subst e;exact I1.fpOk (zav _) (I1.hok.fresh (zav _))
def GN (ta:TA):TI:=fun σ H R=>ta σ H fun vs H1=>∃ j:Int,vs=[.int j]/\-(2 ^ 62)<=j/\j < 2 ^ 62/\R (Itr 0 j.toNat) H1
def rS {a:Expr} {ta:TA} {p pos:Pos} (hg:Gl X "range") (hm:X.mg "range"=none) (ha:PA X [a] ta) (hs:starEach [a] X.env=[(false,eval a X.env)]:=by rfl):PI X tg (.Call (.Name "range" p) [a] [] pos) (GN ta):=by
 intro pins s σ H R I h;refine Call_ (eK I hg hm boot_range (PyProof.Rows.callWith_type1 (thn (ha pos pins s σ H _ I h) fun us s1 ⟨vs,H1,I1,r1,q1⟩=>?_) hs rfl));obtain ⟨j,e,q1,q2,q⟩:=q1;subst e;cases r1 with
 | cons r rr =>
  cases rr;obtain ⟨t,rfl⟩:=r;exact call_range_1 (ub I1 (by omega) (by omega) q1 q2 (by simpa using q))
def Ei (wi:TI) (g:TG) (tb:TS):TS:=fun D σ H=>wi σ H fun J H1=>∃ W:Nat->Nat->St->Hp->Prop,(∃ m,W 0 m σ H1)/\∀ i m σ H,W i m σ H ->
 (J.stop i H/\D.nx σ H)\/(J.go i H/\∃ N:St->Hp->Prop,(∀ σ' H',N σ' H'->∃ m',m' < m/\W (i+1) m' σ' H')/\∀ x H',J.yld i H x H'->g x σ H' fun σ2 H2=>tb { D with nx:=N,ct:=N,bk:=D.nx } σ2 H2)
def jg (fp:List Addr) (h:Heap):List (Addr × Obj):=fp.filterMap fun b=>(h.get? b).map fun o=>(b,o)
def fU {fp:List Addr} {h:Heap} {b:Addr} {o:Obj} (hb:b∈fp) (e:h.get? b=some o):(b,o)∈jg fp h:=List.mem_filterMap.mpr ⟨b,hb,by rw [e]; rfl⟩
def rY {fp:List Addr} {h:Heap} {p:Addr × Obj} (hp:p∈jg fp h):p.1∈fp/\h.get? p.1=some p.2:=by
 obtain ⟨b,hb,e⟩:=List.mem_filterMap.mp hp;cases q:h.get? b with
 | none=>rw [q] at e; cases e
 | some o =>
  rw [q] at e;have e':(b,o)=p:=zat e;subst e';exact ⟨hb,q⟩
def Inv.pinned {pins:List (Addr × Obj)} {σ:St} {H:Hp} {s:Shared} {fp:List Addr} (I:Inv X pins σ H s) (hf:∀ b∈fp,fS X pins H b) (ho:∀ b∈fp,∃ o,s.heap.get? b=some o/\∀ v,o.data≠.cell v):Inv X (pins++jg fp s.heap) σ H s :=
 I.pins_of fun p hp=>(zax.mp hp).elim (fun z=>I.pin p (List.mem_append_right _ z)) fun z=>by
  obtain ⟨hb,e⟩:=rY z;obtain ⟨f0,f1,f2,_⟩:=hf p.1 hb;obtain ⟨o,e',d⟩:=ho p.1 hb;rw [e] at e'; cases e';exact ⟨e,f0,f1,f2,d⟩
def Inv.unpinned {pins pl:List (Addr × Obj)} {σ:St} {H:Hp} {s:Shared} (I:Inv X (pins++pl) σ H s):Inv X pins σ H s:=I.pins_of fun p hp=>I.pin p (List.mem_append_right _ (List.mem_append_left _ hp))
def EC {iter:Expr} {body:List Stmt} {wi:TI} {g:TG} {tb:TS} {pos:Pos} (hp:PassesOwn (model X.prog X.w) X.A X.env X.xe) (hc:X.calm=true) (hi:PI X tg iter wi) (hg:PG X tg g) (hb:PSs X body tb)
  (hs:∀ x,foldedSetIterable iter X.env x=pure x:=by intro _; rfl):PS X (.For tg iter body [] pos) (Ei wi g tb):=by
 intro pins s σ H D I h;refine wpAny_For (thn (hi pins s σ H _ I h) fun v s1 h1=>thn h1 fun itv s2 h2=>?_) hs;obtain ⟨it,fp,tn,J,H2,e,I2,T,st2,f2,W,⟨m0,w0⟩,turn⟩:=h2;subst e;have stat:∀ {H':Hp},(∀ b∈fp,H' b=none)->∀ b∈fp,fS X pins H' b:=fun hn b hb=>⟨hn b hb,(f2 b hb).2⟩;refine codeAny_forLoop_any (fun n s'=>∃ i σ' H',Inv X pins σ' H' s'/\tn i s'.heap/\(∀ b∈fp,H' b=none)/\W i n σ' H') ?_ m0 ⟨0,σ,H2,I2,st2,fun b hb=>(f2 b hb).1,w0⟩;rintro n s3 ⟨i,σ3,H3,I3,st3,fr3,w3⟩;rcases turn i n σ3 H3 w3 with ⟨stop,qn⟩ | ⟨go,N,hN,step⟩
 ·refine wpAny_passesOwn hp (thn (T.done X rfl rfl rfl hc i pins s3 σ3 H3 X.xe I3 (stat fr3) st3 stop) fun r s4 ⟨hr,I4⟩=>?_);subst hr;exact wpAny_execs_nil ⟨σ3,H3,I4,qn⟩
 ·refine wpAny_passesOwn hp (thn (T.item X rfl rfl rfl hc i pins s3 σ3 H3 X.xe I3 (stat fr3) st3 go) fun r s4 ⟨u,hr,h4⟩=>?_);subst hr;refine wpAny_passesOwn hp (thn h4 fun _ s5 ⟨x,H5,I5,r5,y5,st5,fr5⟩=>?_);have I5':=I5.pinned (stat fr5) (T.obj _ _ st5);refine wpAny_passesOwn hp (thn (hg _ s5 σ3 H5 x u _ I5' r5 (step x H5 y5)) fun _ s6 ⟨σ6,H6,I6,q6⟩=>?_);refine wpAny_passesOwn hp (thn (hb _ s6 σ6 H6 _ I6 q6) fun f s7 q7=>?_);have again:∀ {σ7:St} {H7:Hp},Inv X (pins++jg fp s5.heap) σ7 H7 s7->N σ7 H7->∃ m,m < n/\∃ i σ' H',Inv X pins σ' H' s7/\tn i s7.heap/\(∀ b∈fp,H' b=none)/\W i m σ' H':=fun {σ7 H7} I7 n7=>by
   obtain ⟨m',hm,w7⟩:=hN σ7 H7 n7;refine ⟨m',hm,i+1,σ7,H7,I7.unpinned,T.keep _ _ _ st5 fun b hb o e=>(I7.pin (b,o) (List.mem_append_right _ (List.mem_append_right _ (fU hb e)))).1,fun b hb=>?_,w7⟩;obtain ⟨o,e,d⟩:=T.obj _ _ st5 b hb;exact (I7.pin (b,o) (List.mem_append_right _ (List.mem_append_right _ (fU hb e)))).2.1
  cases f with
  | next=>obtain ⟨σ7,H7,I7,n7⟩:=q7; exact again I7 n7
  | cont=>obtain ⟨σ7,H7,I7,n7⟩:=q7; exact again I7 n7
  | brk=>obtain ⟨σ7,H7,I7,q7⟩:=q7; exact ⟨σ7,H7,I7.unpinned,q7⟩
  | ret v=>obtain ⟨x7,σ7,H7,I7,r7,q7⟩:=q7; exact ⟨x7,σ7,H7,I7.unpinned,r7,q7⟩
end
abbrev R2:=V->V->Hp->VK->Prop
def OpR (X:Cx) (f:Value->Value->Sem Value) (r:R2):Prop :=
 ∀ (pins:List (Addr × Obj)) (s:Shared) (σ:St) (H:Hp) (x y:V) (v u:Value) (Q:VK),Inv X pins σ H s->RelV x v->RelV y u->r x y H Q ->
  wpAny (model X.prog X.w) X.A (f v u) (EP X pins σ Q) X.xe s
def UnR (X:Cx) (f:Value->Sem Value) (r:V->Hp->VK->Prop):Prop :=
 ∀ (pins:List (Addr × Obj)) (s:Shared) (σ:St) (H:Hp) (x:V) (v:Value) (Q:VK),Inv X pins σ H s->RelV x v->r x H Q ->
  wpAny (model X.prog X.w) X.A (f v) (EP X pins σ Q) X.xe s
def CallR (X:Cx) (f:Value) (r:List V->Hp->VK->Prop):Prop :=
 ∀ (pins:List (Addr × Obj)) (s:Shared) (σ:St) (H:Hp) (xs:List V) (us:List Value) (Q:VK),Inv X pins σ H s->Vals xs us->r xs H Q ->
  wpAny (model X.prog X.w) X.A (call f us) (EP X pins σ Q) X.xe s
def HQ (X:Cx) (r:V->Hp->(Bool->Hp->Prop)->Prop):Prop :=
 ∀ (pins:List (Addr × Obj)) (s:Shared) (σ:St) (H:Hp) (x:V) (v:Value) (Q:Bool->Hp->Prop),Inv X pins σ H s->RelV x v->r x H Q ->
  wpAny (model X.prog X.w) X.A (truthy v) (TP X pins σ Q) X.xe s
def tOp (r:R2) (ta tb:TE):TE:=fun σ H Q=>ta σ H fun x H1=>tb σ H1 fun y H2=>r x y H2 Q
def tUn (r:V->Hp->VK->Prop) (ta:TE):TE:=fun σ H Q=>ta σ H fun x H1=>r x H1 Q
def rI (C:Int->Int->Prop) (g:Int->Int->V):R2:=fun x y H Q=>∃ i j,x=.int i/\y=.int j/\C i j/\Q (g i j) H
def rI0 (g:Int->Int->V):R2:=fun x y H Q=>∃ i j,x=.int i/\y=.int j/\Q (g i j) H
def rU (g:Int->V):V->Hp->VK->Prop:=fun x H Q=>∃ i,x=.int i/\Q (g i) H
section
variable {X:Cx} {a b c:Expr} {ta tb tc:TE} {pos:Pos}
def vb (ha:PE X a ta) (hb:PE X b tb) {pins:List (Addr × Obj)} {s:Shared} {σ:St} {H:Hp} {R:V->V->Hp->Prop} (I:Inv X pins σ H s)
  (h:ta σ H fun x H1=>tb σ H1 fun y H2=>R x y H2) {Q:Value->Shared->Prop} {f:Value->Value->Sem Value}
  (hf:∀ v u s2 x y H2,Inv X pins σ H2 s2->RelV x v->RelV y u->R x y H2->wpAny (model X.prog X.w) X.A (f v u) Q X.xe s2) :
  wpAny (model X.prog X.w) X.A (eval a X.env) (fun v s₁=>wpAny (model X.prog X.w) X.A (eval b X.env) (fun u s₂=>wpAny (model X.prog X.w) X.A (f v u) Q X.xe s₂) X.xe s₁) X.xe s:=by
 refine thn (ha pins s σ H _ I h) fun v s1 ⟨x,H1,I1,r1,q1⟩=>?_;refine thn (hb pins s1 σ H1 _ I1 q1) fun u s2 ⟨y,H2,I2,r2,q2⟩=>?_;exact hf v u s2 x y H2 I2 r1 r2 q2
def GH {op:Operator} {r:R2} (ho:OpR X (binaryOp op) r) (ha:PE X a ta) (hb:PE X b tb):PE X (.BinOp a op b pos) (tOp r ta tb):=by
 intro pins s σ H Q I h;exact wpAny_BinOp (vb ha hb I h fun v u s2 x y H2 I2 rx ry q=>ho pins s2 σ H2 x y v u Q I2 rx ry q)
def GF {op:UnaryOp} {r:V->Hp->VK->Prop} (ho:UnR X (unaryOp op) r) (ha:PE X a ta):PE X (.UnaryOp op a pos) (tUn r ta):=by
 intro pins s σ H Q I h;exact UnaryOp_ (thn (ha pins s σ H _ I h) fun v s1 ⟨x,H1,I1,r1,q1⟩=>ho pins s1 σ H1 x v Q I1 r1 q1)
def opI {f:Value->Value->Sem Value} {C:Int->Int->Prop} {g:Int->Int->Int}
  (rule:∀ (i j:Int) (t u:Tok) (s:Shared) (Q:Value->Shared->Prop) (E:Value->Shared->Prop),C i j->Q (.int (g i j) s.toks) { s with toks:=s.toks+1 }->wpAny (model X.prog X.w) X.A (f (.int i t) (.int j u)) Q E s) :
  OpR X f (rI C fun i j=>.int (g i j)):=by
 intro pins s σ H x y v u Q I rx ry h;obtain ⟨i,j,rfl,rfl,hc,q⟩:=h;obtain ⟨t,rfl⟩:=rx;obtain ⟨t',rfl⟩:=ry;exact rule i j t t' s _ _ hc ⟨.int (g i j),H,I.tok _,⟨_,rfl⟩,q⟩
def EL {f:Value->Value->Sem Value} {g:Int->Int->Int}
  (rule:∀ (i j:Int) (t u:Tok) (s:Shared) (Q:Value->Shared->Prop) (E:Value->Shared->Prop),Q (.int (g i j) s.toks) { s with toks:=s.toks+1 }->wpAny (model X.prog X.w) X.A (f (.int i t) (.int j u)) Q E s) :
  OpR X f (rI0 fun i j=>.int (g i j)):=by
 intro pins s σ H x y v u Q I rx ry h;obtain ⟨i,j,rfl,rfl,q⟩:=h;obtain ⟨t,rfl⟩:=rx;obtain ⟨t',rfl⟩:=ry;exact rule i j t t' s _ _ ⟨.int (g i j),H,I.tok _,⟨_,rfl⟩,q⟩
def qy {f:Value->Value->Sem Value} {g:Int->Int->Bool}
  (rule:∀ (i j:Int) (t u:Tok) (s:Shared) (Q:Value->Shared->Prop) (E:Value->Shared->Prop),Q (.bool (g i j)) s->wpAny (model X.prog X.w) X.A (f (.int i t) (.int j u)) Q E s) :
  OpR X f (rI0 fun i j=>.bl (g i j)):=by
 intro pins s σ H x y v u Q I rx ry h;obtain ⟨i,j,rfl,rfl,q⟩:=h;obtain ⟨t,rfl⟩:=rx;obtain ⟨t',rfl⟩:=ry;exact rule i j t t' s _ _ ⟨.bl (g i j),H,I,rfl,q⟩
def fT (i j:Int):Prop:=0 < j/\j < 1073741824
def i6 (i j:Int):Prop:=0<=j/\j<=1000000/\i.natAbs < 2 ^ 64
def CMul (i j:Int):Prop:=(-(2 ^ 64) < i/\i < 2 ^ 64)\/(-(2 ^ 64) < j/\j < 2 ^ 64)
def CMul.ok {i j:Int} (h:CMul i j):IntMulOk i j:=by
 rcases h with ⟨h1,h2⟩ | ⟨h1,h2⟩
 ·exact .of_left (intBits_le_64 h1 h2)
 ·exact .of_right (intBits_le_64 h1 h2)
def op_add:OpR X (binaryOp .Add) (rI0 fun i j=>.int (i+j)):=EL fun _ _ _ _ _ _ _ q=>add_int q
def op_sub:OpR X (binaryOp .Sub) (rI0 fun i j=>.int (i - j)):=EL fun _ _ _ _ _ _ _ q=>sub_int q
def op_mul:OpR X (binaryOp .Mult) (rI CMul fun i j=>.int (i * j)):=opI fun _ _ _ _ _ _ _ hc q=>mul_int q hc.ok
def op_fdiv:OpR X (binaryOp .FloorDiv) (rI fT fun i j=>.int (i / j)):=opI fun i j _ _ _ _ _ hc q=>by
 have h1:(0:Int) < j:=hc.1;have h2:j < 1073741824:=hc.2;exact floordiv_int (by omega) (by rw [Int.fdiv_eq_ediv_of_nonneg i (by omega)]; exact q) (.inl (PyProof.noPylong_small (by omega)))
def op_mod:OpR X (binaryOp .Mod) (rI (fun _ j=>0 < j) fun i j=>.int (i % j)):=opI fun i j _ _ _ _ _ hc q=>by
 have h1:(0:Int) < j:=hc;exact mod_int' (by omega) (by rw [Int.fmod_eq_emod_of_nonneg i (by omega)]; exact q)
def op_pow:OpR X (binaryOp .Pow) (rI i6 fun i j=>.int (i ^ j.toNat)):=opI fun _ _ _ _ _ _ _ hc q=>pow_int_small hc.1 hc.2.1 hc.2.2 q
def unI {f:Value->Sem Value} {g:Int->Int}
  (rule:∀ (i:Int) (t:Tok) (s:Shared) (Q:Value->Shared->Prop) (E:Value->Shared->Prop),Q (.int (g i) s.toks) { s with toks:=s.toks+1 }->wpAny (model X.prog X.w) X.A (f (.int i t)) Q E s) :
  UnR X f (rU fun i=>.int (g i)):=by
 intro pins s σ H x v Q I rx h;obtain ⟨i,rfl,q⟩:=h;obtain ⟨t,rfl⟩:=rx;exact rule i t s _ _ ⟨.int (g i),H,I.tok _,⟨_,rfl⟩,q⟩
def un_neg:UnR X (unaryOp .USub) (rU fun i=>.int (-i)):=unI fun _ _ _ _ _ q=>neg_int q
def sQ {pins:List (Addr × Obj)} {σ:St} {H:Hp} {s:Shared} {Q:VK} {k k':Bool} (I:Inv X pins σ H s) (q:Q (.bl k) H) (e:k=k'):EP X pins σ Q (.bool k') s:=by
 subst e;exact ⟨.bl k,H,I,rfl,q⟩
def op_lt:OpR X (compareOp .Lt) (rI0 fun i j=>.bl (decide (i < j))):=qy fun _ _ _ _ _ _ _ q=>lt_int q
def op_le:OpR X (compareOp .LtE) (rI0 fun i j=>.bl (decide (i<=j))):=qy fun _ _ _ _ _ _ _ q=>le_int q
def op_gt:OpR X (compareOp .Gt) (rI0 fun i j=>.bl (decide (j < i))):=qy fun _ _ _ _ _ _ _ q=>gt_int q
def op_ge:OpR X (compareOp .GtE) (rI0 fun i j=>.bl (decide (j<=i))):=qy fun _ _ _ _ _ _ _ q=>ge_int q
def op_isN:OpR X (compareOp .Is) (fun x y H Q=>y=.non/\Q (.bl (decide (x=.non))) H):=by
 intro pins s σ H x y v u Q I rx ry h;obtain ⟨rfl,q⟩:=h;cases ry;refine is_none_gen (sQ I q ?_);cases x <;> first
  | (cases rx; rfl)
  | (obtain ⟨t,rfl⟩:=rx; rfl)
def op_notN:OpR X (compareOp .IsNot) (fun x y H Q=>y=.non/\Q (.bl (!decide (x=.non))) H):=by
 intro pins s σ H x y v u Q I rx ry h;obtain ⟨rfl,q⟩:=h;cases ry;refine isnot_none_gen (sQ I q ?_);cases x <;> first
  | (cases rx; rfl)
  | (obtain ⟨t,rfl⟩:=rx; rfl)
def aX (b:Expr) {op:CmpOp} (h:op≠.In:=by decide) (h2:op≠.NotIn:=by decide):behindInMarks op b=false:=by
 have e1:(op == CmpOp.In)=false:=by cases op <;> first | rfl | exact absurd rfl h
 have e2:(op == CmpOp.NotIn)=false:=by cases op <;> first | rfl | exact absurd rfl h2
 cases b <;> simp [behindInMarks,e1,e2]
def A7 {op:CmpOp} {r:R2} (ho:OpR X (compareOp op) r) (ha:PE X a ta) (hb:PE X b tb) (hm:behindInMarks op b=false):PE X (.Compare a [op] [b] pos) (tOp r ta tb):=by
 intro pins s σ H Q I h;exact wpAny_Compare1 (vb ha hb I h fun v u s2 x y H2 I2 rx ry q=>ho pins s2 σ H2 x y v u Q I2 rx ry q) hm
def Gw (t:TE):TT:=fun σ H Q=>t σ H fun x H'=>∃ k,x=.bl k/\Q k H'
def AU {op:CmpOp} {r:R2} (ho:OpR X (compareOp op) r) (ha:PE X a ta) (hb:PE X b tb) (hm:behindInMarks op b=false):PT X (.Compare a [op] [b] pos) (Gw (tOp r ta tb)):=by
 intro pins s σ H Q I h;refine wpAny_isTrue_Compare1 (thn (ha pins s σ H _ I h) fun v s1 ⟨x,H1,I1,r1,q1⟩=>thn (hb pins s1 σ H1 _ I1 q1) fun u s2 ⟨y,H2,I2,r2,q2⟩ =>
  thn (ho pins s2 σ H2 x y v u _ I2 r1 r2 q2) fun c s3 ⟨z,H3,I3,r3,k,e,q3⟩=>?_) hm
 subst e;cases r3;exact wpAny_truthy_bool ⟨H3,I3,q3⟩
def HP (K:PySem.W.Frag) (x:V) (H:Hp) (k:Bool):Prop :=
 match x with
 | .non=>k=false
 | .bl b=>k=b
 | .int i=>k=(i != 0)
 | .str y=>y.length<=sizeLine/\k=((y.length:Int) != 0)
 | .byt y=>y.size<=sizeLine/\k=((y.size:Int) != 0)
 | .ref p=>(∃ xs,SqL K H p xs/\k=!xs.isEmpty)\/(∃ xs,SqT K H p xs/\k=!xs.isEmpty)\/∃ kvs,H p=some (.dK kvs)/\k=!kvs.isEmpty
 | _=>False
def ii:(sizeLine:Nat) < 2 ^ 63:=by rw [sizeLine_eq]; decide
def qx:OpR X (binaryOp .Add) (fun x y H Q=>∃ i j,x=.str i/\y=.str j/\i.length+j.length<=sizeLine/\Q (.str (i++j)) H):=by
 intro pins s σ H x y v u Q I rx ry h;obtain ⟨i,j,rfl,rfl,hz,q⟩:=h;obtain ⟨t,rfl⟩:=rx;obtain ⟨t',rfl⟩:=ry;exact add_str (fun t' tk=>⟨.str (i++j),H,I.tok _,⟨_,rfl⟩,q⟩) hz
def cF {x:V} {us:List Value} (r:Vals [x] us):∃ u,us=[u]/\RelV x u:=by
 cases r with
 | cons r1 r2=>cases r2; exact ⟨_,rfl,r1⟩
def qi {x y:V} {us:List Value} (r:Vals [x,y] us):∃ u w',us=[u,w']/\RelV x u/\RelV y w':=by
 cases r with
 | cons r1 r2 =>
  cases r2 with
  | cons r3 r4=>cases r4; exact ⟨_,_,rfl,r1,r3⟩
def call_abs:CallR X (.builtin "abs") (fun xs H Q=>∃ i,xs=[.int i]/\Q (.int (if i < 0 then -i else i)) H):=by
 intro pins s σ H xs us Q I r h;obtain ⟨i,rfl,q⟩:=h;obtain ⟨u,rfl,t,rfl⟩:=cF r;exact call_abs_int fun u tk=>⟨.int (if i < 0 then -i else i),H,I.tok _,⟨_,rfl⟩,q⟩
def call_int1:CallR X (.type "int") (fun xs H Q=>(∃ i,xs=[.int i]/\Q (.int i) H)\/∃ k,xs=[.bl k]/\Q (.int (if k then 1 else 0)) H):=by
 intro pins s σ H xs us Q I r h;rcases h with ⟨i,rfl,q⟩ | ⟨k,rfl,q⟩
 ·obtain ⟨u,rfl,t,rfl⟩:=cF r;exact call_int_int ⟨.int i,H,I,⟨_,rfl⟩,q⟩
 ·obtain ⟨u,rfl,r1⟩:=cF r;cases r1;exact call_int_bool ⟨.int (if k then 1 else 0),H,I.tok _,⟨_,rfl⟩,q⟩
def Gu (K:PySem.W.Frag) (x:V) (H:Hp) (n:Nat):Prop :=
 match x with
 | .str y=>y.length<=sizeLine/\n=y.length
 | .byt y=>y.size<=sizeLine/\n=y.size
 | .ref p=>(∃ xs,SqL K H p xs/\n=xs.length)\/∃ xs,SqT K H p xs/\n=xs.length
 | _=>False
def u7:CallR X (.builtin "len") (fun xs H Q=>∃ x n,xs=[x]/\Gu X.K x H n/\Q (.int n) H):=by
 intro pins s σ H xs us Q I r h;obtain ⟨x,n,rfl,e,q⟩:=h;obtain ⟨u,rfl,rx⟩:=cF r;have hl:=ii;have hs:sizeLine=16777216:=sizeLine_eq;cases x with
 | str y =>
  obtain ⟨t,rfl⟩:=rx;obtain ⟨hy,e'⟩:y.length<=sizeLine/\n=y.length:=e;subst e';exact len_str (by omega) ⟨.int _,H,I.tok _,⟨_,rfl⟩,q⟩
 | byt y =>
  obtain ⟨t,rfl⟩:=rx;obtain ⟨hy,e'⟩:y.size<=sizeLine/\n=y.size:=e;subst e';exact PySem.W.len_bytes (by omega) ⟨.int _,H,I.tok _,⟨_,rfl⟩,q⟩
 | ref p =>
  cases rx;have e':(∃ xs,SqL X.K H p xs/\n=xs.length)\/∃ xs,SqT X.K H p xs/\n=xs.length:=e;rcases e' with ⟨xs,hx,e'⟩ | ⟨xs,hx,e'⟩
  ·subst e';obtain ⟨its,r',pl,hz⟩:=I.list hx;have hlen:=r'.length;exact Calls.call_len_list pl.isList (by simp only [zai]; omega) ⟨.int xs.length,H,I.tok _,⟨_,by simp only [zai]; rw [hlen]⟩,q⟩
  ·subst e';obtain ⟨its,r',pl,hz⟩:=I.tuple hx;have hlen:=r'.length;exact len_tuple pl (by simp only [zai]; omega) ⟨.int xs.length,H,I.tok _,⟨_,by simp only [zai]; rw [hlen]⟩,q⟩
 | _=>exact (show False from e).elim
end
structure ObjM (h:Heap) (x dx C:Addr) (mA:Str->Option Value):Prop where
 obj:h.get? x=some (PySem.W.instObj C dx)
 ns:h.Ns1 dx mA
 ne:dx≠x
def r9 {h:Heap} {dx:Addr} {mA:Str->Option Value} (n:h.Ns1 dx mA):∃ od,h.get? dx=some od/\∀ name,PySem.W.lookIn name od=some (mA name):=by
 obtain ⟨o,es,ep,ho,hd,hk,_,hm⟩:=n;refine ⟨o,ho,fun name=>?_⟩;have e:=hm name;unfold nsFind findBy at e;rw [<- Array.find?_toList] at e;unfold PySem.W.lookIn;rw [hd]
 dsimp only
 split
 ·rename_i y q;rw [q] at e;exact congrArg some e
 ·rename_i q;rw [q] at e;have a:es.toList.any (·.refKey)=false:=by
   rw [List.any_eq_false];intro y hy;obtain ⟨z,t,hkey⟩:=hk y (Array.mem_toList_iff.mp hy);simp [DictEntry.refKey,hkey]
  have a':¬ es.toList.any (·.refKey)=true:=by rw [a]; exact Bool.false_ne_true
  rw [if_neg a'];exact congrArg some e
def ObjM.look {h:Heap} {x dx C:Addr} {mA:Str->Option Value} (I:ObjM h x dx C mA):∃ od,PySem.W.InstAt h x (PySem.W.instObj C dx) C (some od)/\∀ name,PySem.W.lookIn name od=some (mA name) :=
 let ⟨od,ho,hl⟩:=r9 I.ns
 ⟨od,⟨I.obj,rfl,rfl,ho⟩,hl⟩
section
variable {prog:Program} {w:World} {A:Around} {E:Value->Shared->Prop} {s:Shared} {K:PySem.W.Frag} {x dx C f:Addr} {mA:Str->Option Value} {name:Str} {v:Value}
end
def RelO.some_of {v:V} {o:Option Value} (r:RelO (some v) o):∃ u,o=some u/\RelV v u:=by
 cases o with
 | none=>exact (show False from r).elim
 | some u=>exact ⟨u,rfl,r⟩
section
variable {P:Program} {w:World} {H H':Hp} {h h':Heap} {a C dx:Addr} {fs fs':List (Str × V)}
def Bp (hok:HOk P w H h) (e:H a=some (.ins C dx fs)):∃ mA,ObjM h a dx C mA/\(∀ f,RelO (fs.lookup f) (mA f))/\PySem.Within mA (fs.map (·.1))/\fs.length<=1000/\H dx=some (.own a):=by
 obtain ⟨d,z,ne,ob,mA,n,r,q⟩:=(show ObjOk P w H h a (.ins C dx fs) from hok a _ e);exact ⟨mA,⟨ob,n,ne⟩,r,q,z,d⟩
end
structure Cls (K:PySem.W.Frag) (C:Addr):Prop where
 pg:PySem.W.plainGet K C Str.empty=true
 hd:PySem.W.hasDictIn K C=true
 po:PySem.W.plainOver K C=true
 sa:PySem.W.findIn K (.ref C) "__setattr__"=some (some (.builtin "object.__setattr__"))
def Cls.get {K:PySem.W.Frag} {C:Addr} (c:Cls K C) (f:Str):PySem.W.plainGet K C f=true:=c.pg
section
variable {X:Cx} {pins:List (Addr × Obj)} {σ:St} {H:Hp} {s:Shared} {a C dx:Addr} {fs:List (Str × V)} {f:Str} {v:V} {A:Around} {E:Value->Shared->Prop}
end
section
variable {X:Cx} {o e value:Expr} {f:Str} {pos pos' tpos:Pos} {ta tv:TE}
end
section
variable {X:Cx} {pins:List (Addr × Obj)} {σ:St} {H:Hp} {s:Shared} {A:Around} {E:Value->Shared->Prop} {Q:Value->Shared->Prop} {c:Value} {b:Bool}
inductive TyOf (K:PySem.W.Frag) (H:Hp):V->Value->Prop where
 | non:TyOf K H .non (.type "NoneType")
 | bl (x:Bool):TyOf K H (.bl x) (.type "bool")
 | int (i:Int):TyOf K H (.int i) (.type "int")
 | str (x:Str):TyOf K H (.str x) (.type "str")
 | flt (x:UInt64):TyOf K H (.flt x) (.type "float")
 | lst {a:Addr} {xs:List V} (e:H a=some (.lst xs)):TyOf K H (.ref a) (.type "list")
 | frz {a:Addr} {o:Obj} {xs:List V} (e:H a=some (.frz o (.lst xs))):TyOf K H (.ref a) (.type "list")
 | tup {a:Addr} {xs:List V} (e:H a=some (.tup xs)):TyOf K H (.ref a) (.type "tuple")
 | dK {a:Addr} {kvs:List (Key × V)} (e:Rd H a (.dK kvs)):TyOf K H (.ref a) (.type "dict")
 | dT {a:Addr} {kvs:List (List Key × V)} (e:H a=some (.dT kvs)):TyOf K H (.ref a) (.type "dict")
 | ins {a C dx:Addr} {fs:List (Str × V)} (e:H a=some (.ins C dx fs)) (cl:Cls K C) (ha:PySem.W.findIn K (.ref C) "__class__"=some (some (.builtin "object.__class__")))
   (hn:PySem.W.specialIn K (.builtin "object.__class__") "__get__"=some (some (.builtin "getset_descriptor.__get__"))) (htk:PySem.W.takesIn K (.builtin "object.__class__")=some true)
   (hm:PySem.W.mroIn K C (.type "object")=some true):TyOf K H (.ref a) (.ref C)
def sy {x:V} {u t:Value} (I:Inv X pins σ H s) (rx:RelV x u) (ty:TyOf X.K H x t) (e:PySem.W.kitOne X.K t c=some b) (h:∀ tk,Q (.bool b) { s with toks:=tk }) :
  wpAny (model X.prog X.w) A (call (.builtin "isinstance") [u,c]) Q E s:=by
 cases ty with
 | non=>cases (show u=Value.none from rx); exact PySem.W.kia_one PySem.W.kitx_none I.kIn True.intro e (fun z=>nomatch z) h
 | bl y=>cases (show u=Value.bool y from rx); exact PySem.W.kia_one PySem.W.kitx_bool I.kIn True.intro e (fun z=>nomatch z) h
 | int i=>obtain ⟨t,q⟩:=(show ∃ t,u=Value.int i t from rx); cases q; exact PySem.W.kia_one PySem.W.kitx_int I.kIn True.intro e (fun z=>nomatch z) h
 | str y=>obtain ⟨t,q⟩:=(show ∃ t,u=Value.str y t from rx); cases q; exact PySem.W.kia_one PySem.W.kitx_str I.kIn True.intro e (fun z=>nomatch z) h
 | flt y=>obtain ⟨t,q⟩:=(show ∃ t,u=Value.float y t from rx); cases q; exact PySem.W.kia_one PySem.W.kitx_float I.kIn True.intro e (fun z=>nomatch z) h
 | @lst a xs ea =>
  cases (show u=Value.ref a from rx);obtain ⟨_,_,n,_,h1⟩:=(show ObjOk X.prog X.w H s.heap a (.lst xs) from I.hok a _ ea);exact PySem.W.kia_one PySem.W.kitx_list I.kIn ⟨_,h1,rfl⟩ e (fun z=>nomatch z) h
 | @frz a ob xs ea =>
  cases (show u=Value.ref a from rx);obtain ⟨_,_,_,n,_,h1⟩:=(show ObjOk X.prog X.w H s.heap a (.frz ob (.lst xs)) from I.hok a _ ea);exact PySem.W.kia_one PySem.W.kitx_list I.kIn ⟨_,h1,rfl⟩ e (fun z=>nomatch z) h
 | @tup a xs ea =>
  cases (show u=Value.ref a from rx);obtain ⟨_,_,_,p⟩:=(show ObjOk X.prog X.w H s.heap a (.tup xs) from I.hok a _ ea);obtain ⟨o,h1,h2,_⟩:=p;exact PySem.W.kia_one PySem.W.kitx_tuple I.kIn ⟨o,h1,h2⟩ e (fun z=>nomatch z) h
 | @dK a kvs ea =>
  cases (show u=Value.ref a from rx);obtain ⟨_,_,vs,_,p⟩:=(show ObjOk X.prog X.w H s.heap a (.dK kvs) from ea.ok I.hok);obtain ⟨o,es,ep,h1,h2,_⟩:=p;exact PySem.W.kia_one PySem.W.kitx_dict I.kIn ⟨o,h1,h2.1⟩ e (fun z=>nomatch z) h
 | @dT a kvs ea =>
  cases (show u=Value.ref a from rx);obtain ⟨_,_,xs,_,o,es,ep,h1,h2,_⟩:=(show ObjOk X.prog X.w H s.heap a (.dT kvs) from I.hok a _ ea);exact PySem.W.kia_one PySem.W.kitx_dict I.kIn ⟨o,h1,h2.1⟩ e (fun z=>nomatch z) h
 | @ins a C dx fs ea cl ha hn htk hm =>
  cases (show u=Value.ref a from rx);obtain ⟨mA,O,_⟩:=Bp I.hok ea;obtain ⟨od,J,_⟩:=O.look;exact PySem.W.kia_one (PySem.W.kitx_own (cl.get _) cl.hd ha hn htk hm) I.kIn J e (fun z=>nomatch z) h
end
structure Room (k:Nat) (A:Around):Prop where
 hd:A.handled=none
 dp:A.depth+3 * k+5 < recursionLimit
 un:A.units+16 * k+200 < cLine
 gd:A.guards=some []
def Room.mono {j k:Nat} {A:Around} (r:Room k A) (h:j<=k):Room j A:=⟨r.hd,by have:=r.dp; omega,by have:=r.un; omega,r.gd⟩
def Room.deeper {k:Nat} {A:Around} (r:Room (k+1) A) (env:Env):Room k (A.deeper env) :=
 ⟨r.hd,by have:=r.dp; show A.depth+1+3 * k+5 < _; omega,by have:=r.un; show A.units+3+16 * k+200 < _; omega,r.gd⟩
def Room.depth {k:Nat} {A:Around} (r:Room k A):A.depth < recursionLimit:=by have:=r.dp; omega
def Room.units {k:Nat} {A:Around} (r:Room k A):A.units+64 < cLine:=by have:=r.un; omega
def m6:TA:=fun _ H Q=>Q [] H
def gF (ta:TE) (tr:TA):TA:=fun σ H Q=>ta σ H fun x H1=>tr σ H1 fun xs H2=>Q (x :: xs) H2
section
variable {X:Cx} {e:Expr} {es:List Expr} {te:TE} {t:TA} {pos:Pos}
def pa_nil:PA X [] m6:=fun _ _ _ _ H Q I h=>Calls.spliced_nil ⟨[],H,I,.nil,h⟩
def bM (ha:PE X e te) (hr:PA X es t) (hs:starEach (e :: es) X.env=(false,eval e X.env) :: starEach es X.env:=by rfl):PA X (e :: es) (gF te t):=by
 intro pos pins s σ H Q I h;rw [hs];show wpAny _ _ (spliced ((false,eval e X.env) :: backTo pos (starEach es X.env))) _ _ s;refine Calls.spliced_cons (thn (ha pins s σ H _ I h) fun u s1 ⟨x,H1,I1,r1,q1⟩=>?_);exact thn (hr pos pins s1 σ H1 _ I1 q1) fun us s2 ⟨xs,H2,I2,r2,q2⟩=>⟨x :: xs,H2,I2,.cons r1 r2,q2⟩
def tU (t:TA):TE:=fun σ H Q=>t σ H fun xs H1=>xs.length<=sizeLine/\∀ p,H1 p=none->Q (.ref p) (upd H1 p (.tup xs))
def Ef (t:TA):TE:=fun σ H Q=>t σ H fun xs H1=>xs.length<=sizeLine/\∀ p,H1 p=none->Q (.ref p) (upd H1 p (.lst xs))
def no {x1} (h:PA X es t):PE X (.Tuple es x1 pos) (tU t):=by
 intro pins s σ H Q I hq;refine wpAny_Tuple_spliced (thn (h pos pins s σ H _ I hq) fun us s1 ⟨xs,H1,I1,r,z,q⟩=>⟨by rw [<- r.length]; exact z,?_⟩);have hf:H1 s1.heap.objs.size=none:=I1.hok.fresh (zav _);refine ⟨.ref s1.heap.objs.size,upd H1 s1.heap.objs.size (.tup xs),I1.laid (t':=s1.toks) (fun b u e=>zaf _ e) (zav _) ?_,rfl,q _ hf⟩;exact ⟨z,us,r,⟨_,zan _ rfl,rfl,_,rfl,rfl⟩⟩
def EH (h:PA X es t):PE X (.List es pos) (Ef t):=by
 intro pins s σ H Q I hq;refine wpAny_List_spliced (thn (h pos pins s σ H _ I hq) fun us s1 ⟨xs,H1,I1,r,z,q⟩=>⟨by rw [<- r.length]; exact z,?_⟩);have hf:H1 s1.heap.objs.size=none:=I1.hok.fresh (zav _);refine ⟨.ref s1.heap.objs.size,upd H1 s1.heap.objs.size (.lst xs),I1.laid (t':=s1.toks) (fun b u e=>zaf _ e) (zav _) ?_,rfl,q _ hf⟩;exact ⟨z,us,0,r,zan _ rfl⟩
end
abbrev Sp:=List V->Hp->VK->XK->Prop
abbrev CXT:=List Env->Hp->Shared->XK->Value->Shared->Prop
structure Env0 (P:Program) (w:World) (K:PySem.W.Frag) (mg:Str->Option Value) (base:Heap) (A:Around) (outer:List Env) (s:Shared) (H:Hp):Prop where
 frames:A.frames=some outer
 mod:Mod K mg base
 bs:∀ b o,base.get? b=some o->s.heap.get? b=some o/\H b=none
 bsz:base.objs.size<=s.heap.objs.size
 funs:s.heap.FunFrames base outer
 frf:∀ b∈frs outer,H b=none
 hok:HOk P w H s.heap
 bare:AllBare s.gens
def CE (outer:List Env) (P:Program) (w:World) (H:Hp) (s:Shared) (Q:VK) (u:Value) (s':Shared):Prop :=
 ∃ v H',s'.os=s.os/\AllBare s'.gens/\Un (frs outer) [] H H' s.heap s'.heap/\HOk P w H' s'.heap/\RelV v u/\Q v H'
def CR (CX:CXT) (outer:List Env) (P:Program) (w:World) (H:Hp) (s:Shared) (Q:VK) (E:XK) (r:Result) (s':Shared):Prop :=
 match r with
 | .ok (.ret u)=>CE outer P w H s Q u s'
 | .ok _=>False
 | .error e=>CX outer H s E e s'
structure FnOk (P:Program) (w:World) (K:PySem.W.Frag) (mg:Str->Option Value) (base:Heap) (CX:CXT) (k:Nat) (f:Addr) (fd:FuncData) (ps:List Str) (sp:Sp):Prop where
 len:∀ vs H Q E,sp vs H Q E->vs.length=ps.length
 run:∀ (A:Around) (outer:List Env) (s:Shared) (H:Hp) (args:Args) (us:List Value) (vs:List V) (Q:VK) (E:XK),Room k A->Env0 P w K mg base A outer s H->BindsTo s fd args (ps.zip us)->Vals vs us->sp vs H Q E ->
  codeAny (model P w) A (.call (.ref f) args) (CR CX outer P w H s Q E) s
def FnOk.mono {P:Program} {w:World} {K:PySem.W.Frag} {mg:Str->Option Value} {base:Heap} {CX:CXT} {j k:Nat} {f:Addr} {fd:FuncData} {ps:List Str} {sp:Sp} (F:FnOk P w K mg base CX j f fd ps sp) (h:j<=k) :
  FnOk P w K mg base CX k f fd ps sp:=⟨F.len,fun A outer s H args us vs Q E hr=>F.run A outer s H args us vs Q E (hr.mono h)⟩
def FnOk.imp {P:Program} {w:World} {K:PySem.W.Frag} {mg:Str->Option Value} {base:Heap} {CX:CXT} {k:Nat} {f:Addr} {fd:FuncData} {ps:List Str} {sp sp':Sp} (F:FnOk P w K mg base CX k f fd ps sp)
  (h:∀ vs H Q E,sp' vs H Q E->sp vs H Q E):FnOk P w K mg base CX k f fd ps sp' :=
 ⟨fun vs H Q E q=>F.len vs H Q E (h _ _ _ _ q),fun A outer s H args us vs Q E hr he hb hv hs=>F.run A outer s H args us vs Q E hr he hb hv (h _ _ _ _ hs)⟩
section
variable {X:Cx} {pins:List (Addr × Obj)} {σ:St} {H:Hp} {s s':Shared}
def Inv.env0 (I:Inv X pins σ H s):Env0 X.prog X.w X.K X.mg X.base X.A X.stack s H :=
 ⟨I.ok.frames,I.ok.mod,I.bs,zau I.ok.bsz I.sz,I.stack,I.stkFree,I.hok,I.bare⟩
def Inv.after {Q:VK} {u:Value} (I:Inv X pins σ H s) (h:CE X.stack X.prog X.w H s Q u s'):EP X pins σ Q u s':=by
 obtain ⟨v,H',os,bare,un,hok,r,q⟩:=h;obtain ⟨hh,g,d,t,os'⟩:=s';obtain rfl:os'=s.os:=os;exact ⟨v,H',I.call (h':=hh) (g':=g) (d':=d) (t':=t) (ch:=[]) un hok bare (fun b z=>absurd z (by simp)),r,q⟩
end
def mT (sp:Sp) (dvs:List V) (E:XK) (t:TA):TE:=fun σ H Q=>t σ H fun vs H1=>sp (vs++dvs) H1 Q E
def Binds (K:PySem.W.Frag) (fd:FuncData) (ps:List Str) (ds:List Value):Prop :=
 ∀ (s:Shared) (us:List Value),K.In s.heap->(us++ds).length=ps.length->BindsTo s fd ⟨us,[]⟩ (ps.zip (us++ds))
def Binds.all {K:PySem.W.Frag} {fd:FuncData} {ps:List Str} (h:∀ us:List Value,us.length=ps.length->bindArgs fd ⟨us,[]⟩=pure (ps.zip us)):Binds K fd ps []:=fun s us _ hl=>by
 rw [List.append_nil] at hl ⊢;exact .of_eq (h us hl)
def oD (CX:CXT) (X:Cx) (E:XK):Prop:=∀ (pins:List (Addr × Obj)) (σ:St) (H:Hp) (s:Shared) (e:Value) (s':Shared),Inv X pins σ H s->CX X.stack H s E e s'->X.xe e s'
section
variable {X:Cx} {CX:CXT} {k:Nat} {f C:Addr} {fd:FuncData} {ps:List Str} {sp:Sp} {dvs:List V} {ds:List Value} {E:XK} {x m:Str} {p pos apos:Pos} {e o:Expr} {es:List Expr} {ta:TE} {t:TA}
def Ep {pins:List (Addr × Obj)} {σ:St} {H:Hp} {s:Shared} {Q:VK} {us:List Value} {vs:List V} (F:FnOk X.prog X.w X.K X.mg X.base CX k f fd ps sp) (hr:Room k X.A) (hb:Binds X.K fd ps ds) (hd:Vals dvs ds) (hx:oD CX X E)
  (I:Inv X pins σ H s) (r:Vals vs us) (h:sp (vs++dvs) H Q E):wpAny (model X.prog X.w) X.A (call (.ref f) us) (EP X pins σ Q) X.xe s:=by
 have r2:Vals (vs++dvs) (us++ds):=r.append hd;have hl:(us++ds).length=ps.length:=by rw [<- r2.length]; exact F.len _ _ _ _ h
 refine wpAny_call (codeAny_mono (F.run X.A X.stack s H ⟨us,[]⟩ (us++ds) (vs++dvs) Q E hr I.env0 (hb s us I.kIn hl) r2 h) fun r s' hq=>?_);cases r with
 | error e=>exact hx pins σ H s e s' I hq
 | ok fl =>
  cases fl with
  | ret u=>exact I.after hq
  | next=>exact False.elim hq
  | brk=>exact False.elim hq
  | cont=>exact False.elim hq
def A8 (F:FnOk X.prog X.w X.K X.mg X.base CX k f fd ps sp) (hr:Room k X.A) (hg:Gl X x) (hm:X.mg x=some (.ref f)) (hk:PySem.W.keepIn X.K (.ref f)=true) (hb:Binds X.K fd ps ds) (hd:Vals dvs ds) (hx:oD CX X E)
  (ha:PA X (e :: es) t) (hdb:(x == ("__debug__" : Str))=false:=by decide) (he:starEach (e :: es) X.env=(false,eval e X.env) :: starEach es X.env:=by rfl) (hpl:(backTo pos (starEach es X.env)).any (·.1)=false:=by rfl) :
  PE X (.Call (.Name x p) (e :: es) [] pos) (mT sp dvs E t):=by
 intro pins s σ H Q I h;refine wpAny_Call_Name_kw (Bh I hg hm ?_ hdb);refine PySem.W.callWith_K (h₀:=X.base) I.ok.mod.kin hk (thn (ha pos pins s σ H _ I h) fun us s1 ⟨vs,H1,I1,r,q⟩=>⟨I1.kIn,?_⟩) he hpl;exact Ep F hr hb hd hx I1 r q
end
section
variable {X:Cx} {CX:CXT} {k:Nat} {f C:Addr} {fd:FuncData} {ps ks:List Str} {sp:Sp} {E:XK} {x m:Str} {p pos apos kpos:Pos} {e o:Expr} {es:List Expr} {kws:List Keyword} {te ta:TE} {t tk:TA} {nm:Option Str}
variable {g:List Value->List Value->List Value} {gV:List V->List V->List V}
end
structure FnScope (N P:List Str) (sc:Scope):Prop where
 kind:sc.kind=.function
 co:sc.isCoroutine=false
 gen:sc.isGenerator=false
 nd:N.Nodup
 pre:N.take P.length=P
 par:∀ x∈P,sc.names.lookup x=some .local\/sc.names.lookup x=some .cell
 nofree:∀ y∈sc.names,y.2≠.free
def mH {kindOf:Str->Option NameKind} {x:Str}:∀ {binds:List (Str × Value)} {m:Str->Option Value},(∀ v,(x,v) ∉ binds)->bindL kindOf binds m x=m x
 | [],_,_=>rfl
 | (n,v) :: r,m,h=>by
  unfold bindL;rw [mH fun w hw=>h w (zaj _ hw)];split
  ·have:x≠n:=by rintro rfl; exact h v zaq
   simp [this]
  ·rfl
def mJ {kindOf:Str->Option NameKind} {x:Str}:∀ {binds:List (Str × Value)} {m:Str->Option Value},(∀ v,(x,v) ∉ binds)->bindC kindOf binds m x=m x
 | [],_,_=>rfl
 | (n,v) :: r,m,h=>by
  unfold bindC;rw [mJ fun w hw=>h w (zaj _ hw)];split
  ·rfl
  ·have:x≠n:=by rintro rfl; exact h v zaq
   simp [this]
def mI {kindOf:Str->Option NameKind} {x:Str} {v:Value}:∀ {P:List Str} {vs:List Value} {i:Nat} {m:Str->Option Value},P.Nodup->P[i]?=some x->vs[i]?=some v->kindOf x=some .local ->
  bindL kindOf (P.zip vs) m x=some v
 | [],_,_,_,_,h,_,_=>by simp at h
 | _ :: _,[],_,_,_,_,h,_=>by simp at h
 | p :: P,w :: vs,0,m,nd,h1,h2,hk=>by
  simp at h1 h2; subst h1; subst h2;show bindL kindOf ((p,w) :: P.zip vs) m p=_;unfold bindL;rw [mH fun v hv=>(zbc.mp nd).1 (List.of_mem_zip hv).1,if_pos hk];simp
 | p :: P,w :: vs,i+1,m,nd,h1,h2,hk=>by
  show bindL kindOf ((p,w) :: P.zip vs) m x=_;unfold bindL;exact mI (i:=i) (zbc.mp nd).2 (by simpa using h1) (by simpa using h2) hk
def mK {kindOf:Str->Option NameKind} {x:Str} {v:Value}:∀ {P:List Str} {vs:List Value} {i:Nat} {m:Str->Option Value},P.Nodup->P[i]?=some x->vs[i]?=some v->kindOf x≠some .local ->
  bindC kindOf (P.zip vs) m x=some v
 | [],_,_,_,_,h,_,_=>by simp at h
 | _ :: _,[],_,_,_,_,h,_=>by simp at h
 | p :: P,w :: vs,0,m,nd,h1,h2,hk=>by
  simp at h1 h2; subst h1; subst h2;show bindC kindOf ((p,w) :: P.zip vs) m p=_;unfold bindC;rw [mJ fun v hv=>(zbc.mp nd).1 (List.of_mem_zip hv).1,if_neg hk];simp
 | p :: P,w :: vs,i+1,m,nd,h1,h2,hk=>by
  show bindC kindOf ((p,w) :: P.zip vs) m x=_;unfold bindC;exact mK (i:=i) (zbc.mp nd).2 (by simpa using h1) (by simpa using h2) hk
def da (N:List Str) (vs:List V):St:=vs.map some++List.replicate (N.length - vs.length) none
def km (CX:CXT) (P:Program) (w:World) (K:PySem.W.Frag) (mg:Str->Option Value) (base:Heap) (N:List Str) (qual:Str) (scope:Scope) (f:Addr) (cd:Value) (A:Around) (outer:List Env) (s:Shared) (H:Hp) (E:XK):Cx where
 prog:=P
 w:=w
 K:=K
 mg:=mg
 base:=base
 A:=A.deeper (envOfC qual scope s.heap.objs.size f cd)
 N:=N
 s₀:=s
 H₀:=H
 env:=envOfC qual scope s.heap.objs.size f cd
 outer:=outer
 stack:=envOfC qual scope s.heap.objs.size f cd :: outer
 ex:=[]
 calm:=true
 fn:=fun _=>true
 pn:=[]
 xe:=fun e s'=>wpAny (model P w) (A.deeper (envOfC qual scope s.heap.objs.size f cd)) (leaving (envOfC qual scope s.heap.objs.size f cd) e) (fun _ s''=>CX outer H s E e s'') (fun e' s''=>CX outer H s E e' s'') s'
def oy {sc:Scope} {n:Nat} {x:Str} (h:sc.names.lookup x=some .cell):∃ c,(cellsFrom n sc.names []).lookup x=some c:=by
 have q:=PySem.W.cellsFrom_some sc.names n [] (.inl h);exact Option.isSome_iff_exists.mp q
def sA {CX:CXT} {P:Program} {w:World} {K:PySem.W.Frag} {mg:Str->Option Value} {base:Heap} {N ps:List Str} {qual:Str} {scope:Scope} {f:Addr} {cd:Value} {A:Around} {outer:List Env} {s s1:Shared} {H:Hp} {E:XK} {us:List Value} {vs:List V}
  (S:FnScope N ps scope) (hd:A.handled=none) (e0:Env0 P w K mg base A outer s H) (hl:vs.length=ps.length) (r:Vals vs us)
  (x:InCallC s s.heap.objs.size (bindL (envOfC qual scope s.heap.objs.size f cd).kindOf (ps.zip us) fun _=>none) (cellsFrom (s.heap.objs.size+1) scope.names []) (bindC (envOfC qual scope s.heap.objs.size f cd).kindOf (ps.zip us) fun _=>none) s1) :
  Inv (km CX P w K mg base N qual scope f cd A outer s H E) [] (da N vs) H s1:=by
 have hpl:ps.length<=N.length:=by have:=congrArg List.length S.pre; rw [zaE] at this; omega
 obtain ⟨h1,tk,rfl,hk⟩:=x.done;have noA:∀ b:Addr,b ∉ (km CX P w K mg base N qual scope f cd A outer s H E).ex:=fun b z=>absurd (show b∈([]:List Addr) from z) (by simp);refine ⟨⟨e0.mod,S.kind,rfl,rfl,zav _,fun y z c h1 h2=>?_,fun y hy=>?_,fun y c _ h=>?_,fun _=>hd,Around.frames_deeper e0.frames,.inr ⟨rfl,rfl⟩,fun b z=>absurd z (noA b),e0.bs,e0.bsz,fun b _ _=>noA b,fun b z=>absurd z (noA b),e0.funs,e0.frf⟩,
  rfl,e0.bare,Un.kept hk,⟨_,x.toInCall.ns,fun i y v h1 h2 h3=>?_⟩,fun y c h=>⟨_,x.cell y c h⟩,e0.hok.fresh (zav _),fun y c h=>?_,fun p hp=>absurd (show p∈([]:List (Addr × Obj)) from hp) (by simp),e0.hok.kept hk,?_⟩
 ·exact name_of_addr x.apart (zaU h1) (zaU h2)
 ·have hy:scope.names.lookup y=some .cell\/scope.names.lookup y=some .free:=hy;rcases hy with hy | hy
  ·exact oy hy
  ·exact absurd rfl (S.nofree _ (zaU hy))
 ·exact Nat.le_of_lt (x.above y c (zaU h))
 ·have hi:i < vs.length:=by
   unfold da at h2;by_cases hi:i < vs.length
   ·exact hi
   ·rw [List.getElem?_append_right (by simpa using hi)] at h2;rw [List.getElem?_replicate] at h2;split at h2 <;> cases h2
  have ha:vs[i]?=some v:=by
   unfold da at h2;rw [zaS (by simpa using hi),zao] at h2;cases e:vs[i]? with
   | none=>rw [e] at h2; cases h2
   | some a=>rw [e] at h2; cases h2; rfl
  obtain ⟨u,hu,rv⟩:=r.get ha;have hp:ps[i]?=some y:=by
   rw [<- S.pre,List.getElem?_take_of_lt (by omega)]; exact h1
  have ndP:ps.Nodup:=by rw [<- S.pre]; exact S.nd.sublist (List.take_sublist _ _)
  refine ⟨u,rv,?_⟩;rcases S.par y (zaX hp) with k | k
  ·exact .inl ⟨k,mI ndP hp hu k⟩
  ·obtain ⟨c,e⟩:=oy (n:=s.heap.objs.size+1) k;refine .inr ⟨.inl k,c,e,?_⟩;have q:=x.cell y c e;rw [mK ndP hp hu (by show scope.names.lookup y≠_; rw [k]; decide)] at q;exact q
 ·exact e0.hok.fresh (Nat.le_of_lt (x.above y c (zaU h)))
 ·unfold da;show _=N.length;rw [zae,zad,zaN];omega
def GT {CX:CXT} {P:Program} {w:World} {K:PySem.W.Frag} {mg:Str->Option Value} {base:Heap} {k:Nat} {f:Addr} {name qual:Str} {params:Arguments} {body:List Stmt} {scope:Scope} {dV kV doc pm cdv ct oc:Value} {an od:Option Addr}
  {osl:Array (Option Value)} {N ps:List Str} {sp:Sp} (lk:K.lookup f=some ⟨oc,od,.func (PySem.W.fnOf name qual params body scope dV kV doc pm an cdv ct),osl⟩) (hcd:PySem.W.codeIn K cdv qual=true) (S:FnScope N ps scope)
  (len:∀ vs H Q E,sp vs H Q E->vs.length=ps.length)
  (hbody:∀ (A:Around) (outer:List Env) (s:Shared) (H:Hp) (vs:List V) (Q:VK) (E:XK),Room k (A.deeper (envOfC qual scope s.heap.objs.size f cdv))->sp vs H Q E ->
   ∃ t,PSs (km CX P w K mg base N qual scope f cdv A outer s H E) body t/\t { nx:=fun _ H'=>Q .non H',rt:=Q } (da N vs) H) :
  FnOk P w K mg base CX (k+1) f (PySem.W.fnOf name qual params body scope dV kV doc pm an cdv ct) ps sp:=by
 refine ⟨len,fun A outer s H args us vs Q E hr e0 hb r hsp=>?_⟩;have hl:=len _ _ _ _ hsp;have KX:K.In s.heap:=e0.mod.kin.keeps fun b o e=>(e0.bs b o e).1;have lim:s.heap.NoLimit:=e0.mod.nolimit.keeps fun b o e=>(e0.bs b o e).1;have hkind:∀ y∈ps.zip us,scope.names.lookup y.1=some .local\/(scope.names.lookup y.1=some .cell/\((cellsFrom (s.heap.objs.size+1) scope.names []).lookup y.1).isSome=true):=fun ⟨n,v⟩ hy=>by
  rcases S.par n (List.of_mem_zip hy).1 with q | q
  ·exact .inl q
  ·exact .inr ⟨q,PySem.W.cellsFrom_some _ _ _ (.inl q)⟩
 refine codeAny_call_function hr.depth (KX _ _ lk) rfl S.co S.gen rfl (PySem.W.codeRec_of KX hcd) (hb _ _ _ _ ?_);refine wpAny_newFunctionEnv_cells S.kind hkind fun env he s1 x=>?_;subst he;refine ⟨lim.keeps x.toInCall.keep,codeAny_func ?_⟩;obtain ⟨t,ht,hq⟩:=hbody A outer s H vs Q E (hr.deeper _) hsp;have I:Inv (km CX P w K mg base N qual scope f cdv A outer s H E) [] (da N vs) H s1:=sA S hr.hd e0 hl r x;refine wpAny_mono (ht [] s1 (da N vs) H _ I hq) (fun fl s' hs=>?_) fun e s' hs=>hs;have fin:∀ {σ':St} {H':Hp} {v:V} {u:Value},Inv (km CX P w K mg base N qual scope f cdv A outer s H E) [] σ' H' s'->RelV v u->Q v H'->CE outer P w H s Q u s' :=
  fun {σ' H' v u} J rv q=>⟨v,H',J.os,J.bare,J.base,J.hok,rv,q⟩
 cases fl with
 | ret u =>
  obtain ⟨v,σ',H',J,rv,q⟩:=hs;exact fin J rv q
 | next =>
  obtain ⟨σ',H',J,q⟩:=hs;exact fin (v:=V.non) (u:=Value.none) J rfl q
 | brk =>
  obtain ⟨_,_,_,q⟩:=hs;exact False.elim q
 | cont =>
  obtain ⟨_,_,_,q⟩:=hs;exact False.elim q
section
variable {X:Cx} {x:Str} {p pos:Pos} {e:Expr} {es:List Expr} {t:TA} {id T:String} {r:List V->Hp->VK->Prop}
def tCB (r:List V->Hp->VK->Prop) (t:TA):TE:=fun σ H Q=>t σ H fun vs H1=>r vs H1 Q
def ke (hc:CallR X (.builtin id) r) (hg:Gl X x) (hm:X.mg x=none) (hv:bootBuiltins x=some (.builtin id)) (ha:PA X (e :: es) t) (hn:x≠"__name__":=by decide) (hdb:(x == ("__debug__" : Str))=false:=by decide)
  (he:starEach (e :: es) X.env=(false,eval e X.env) :: starEach es X.env:=by rfl) (hpl:(backTo pos (starEach es X.env)).any (·.1)=false:=by rfl):PE X (.Call (.Name x p) (e :: es) [] pos) (tCB r t):=by
 intro pins s σ H Q I h;refine wpAny_Call_Name_kw (eK I hg hm hv ?_ hn hdb);exact PyProof.Rows.callWith_builtin1 (thn (ha pos pins s σ H _ I h) fun us s1 ⟨vs,H1,I1,r1,q1⟩=>hc pins s1 σ H1 vs us Q I1 r1 q1) he hpl
def rV (hc:CallR X (.type T) r) (hg:Gl X x) (hm:X.mg x=none) (hv:bootBuiltins x=some (.type T)) (ha:PA X (e :: es) t) (hn:x≠"__name__":=by decide) (hdb:(x == ("__debug__" : Str))=false:=by decide)
  (he:starEach (e :: es) X.env=(false,eval e X.env) :: starEach es X.env:=by rfl) (hpl:(backTo pos (starEach es X.env)).any (·.1)=false:=by rfl):PE X (.Call (.Name x p) (e :: es) [] pos) (tCB r t):=by
 intro pins s σ H Q I h;refine wpAny_Call_Name_kw (eK I hg hm hv ?_ hn hdb);exact PyProof.Rows.callWith_type1 (thn (ha pos pins s σ H _ I h) fun us s1 ⟨vs,H1,I1,r1,q1⟩=>hc pins s1 σ H1 vs us Q I1 r1 q1) he hpl
end
end L2
namespace HT
open PySem PyProof.Rows
section
open PySem.SeqAt
open PySem.AutoSeq1 (wpAny_loadPart')
open PySem.MeetsSeq PySem.MeetsSeq2 PySem.MeetsSeq3
end
section
variable {prog:Program} {w:World} {A:Around} {E:Value->Shared->Prop} {s:Shared}
def sIx (n d:Nat):Option Int->Nat
 | none=>d
 | some v=>if v < 0 then (v+(n:Int)).toNat else min v.toNat n
def sIx_none (n d:Nat):sIx n d none=d:=rfl
def sIx_nat (n d k:Nat):sIx n d (some (k:Int))=min k n:=by
 show (if (k:Int) < 0 then ((k:Int)+(n:Int)).toNat else min (k:Int).toNat n)=min k n;rw [if_neg (by omega),zaL]
end
end HT
namespace L2
open PySem PySem.Spec PyProof.Rows
abbrev TO:=St->Hp->(Option Int->Hp->Prop)->Prop
def PO (X:Cx) (e:Option Expr) (t:TO):Prop :=
 ∀ (pins:List (Addr × Obj)) (s:Shared) (σ:St) (H:Hp) (Q:Option Int->Hp->Prop),Inv X pins σ H s->t σ H Q ->
  wpAny (model X.prog X.w) X.A (evalPart e X.env) (fun u s'=>∃ o H',Inv X pins σ H' s'/\IsPart u o/\Q o H') X.xe s
def oZ:TO:=fun _ H Q=>Q none H
def Ag (t:TE):TO:=fun σ H Q=>t σ H fun x H1=>∃ i,x=.int i/\Q (some i) H1
def qQ {ns:List Int}:∀ {us:List Value},Vals (ns.map V.int) us->IntsAre us ns:=by
 induction ns with
 | nil=>intro us r; rw [List.map_nil] at r; cases r; exact .nil
 | cons n ns ih =>
  intro us r;rw [zar] at r;cases r with
  | cons r1 r2 =>
   obtain ⟨t,e⟩:=r1;subst e;exact .cons n t (ih r2)
section
variable {X:Cx} {e:Expr} {te:TE} {lo hi:Option Expr} {tl th:TO} {pos p2:Pos}
def A2:PO X none oZ:=by
 intro pins s σ H Q I h;rw [evalPart_none];exact zaT ⟨none,H,I,.none,h⟩
def A1 (h:PE X e te):PO X (some e) (Ag te):=by
 intro pins s σ H Q I hw;rw [evalPart_some];refine thn (h pins s σ H _ I hw) fun u s1 ⟨x,H1,I1,r1,q1⟩=>?_;obtain ⟨i,rfl,q⟩:=q1;obtain ⟨t,rfl⟩:=r1;exact ⟨some i,H1,I1,.int i t,q⟩
def SlR (X:Cx) (r:V->Option Int->Option Int->Hp->VK->Prop):Prop :=
 ∀ (pins:List (Addr × Obj)) (s:Shared) (σ:St) (H:Hp) (x:V) (v vl vu:Value) (lo hi:Option Int) (sl:Addr) (Q:VK),Inv X pins σ H s->RelV x v->s.heap.IsSliceOf sl vl vu .none->IsPart vl lo->IsPart vu hi->r x lo hi H Q ->
  ∃ T id,typeLookup (.type T) "__getitem__"=pure (some (.builtin id))/\s.TypeIs v T/\wpAny (model X.prog X.w) X.A (getItem v (.ref sl)) (EP X pins σ Q) X.xe s
def tSl (r:V->Option Int->Option Int->Hp->VK->Prop) (te:TE) (tl th:TO):TE:=fun σ H Q=>te σ H fun x H1=>tl σ H1 fun l H2=>th σ H2 fun u H3=>r x l u H3 Q
def uh {r:V->Option Int->Option Int->Hp->VK->Prop} (hr:SlR X r) (he:PE X e te) (hl:PO X lo tl) (hu:PO X hi th):PE X (.Subscript e (.Slice lo hi none p2) pos) (tSl r te tl th):=by
 intro pins s σ H Q I h;refine Subscript_ (thn (he pins s σ H _ I h) fun v s1 ⟨x,H1,I1,r1,q1⟩=>?_);refine wpAny_Slice (thn (hl pins s1 σ H1 _ I1 q1) fun vl s2 ⟨l,H2,I2,pl,q2⟩=>thn (hu pins s2 σ H2 _ I2 q2) fun vu s3 ⟨u,H3,I3,pu,q3⟩=>?_);rw [evalPart_none];refine zaT ?_;have I4:Inv X pins σ H3 { s3 with heap:=s3.heap.push { cls:=.type "slice",data:=.fields #[vl,vu,.none] } }:=I3.kept (t':=s3.toks) fun b ob q=>zaf _ q;obtain ⟨T,id,hT,ht,hg⟩:=hr pins { s3 with heap:=s3.heap.push { cls:=.type "slice",data:=.fields #[vl,vu,.none] } } σ H3 x v vl vu l u s3.heap.objs.size Q I4 r1 (Heap.IsSliceOf.new ..) pl pu q3;show wpAny (model X.prog X.w) X.A (subscriptTail e (.Slice lo hi none p2) v (.ref s3.heap.objs.size)) (EP X pins σ Q) X.xe { s3 with heap:=s3.heap.push { cls:=.type "slice",data:=.fields #[vl,vu,.none] } };exact tail_any (ops:=[.ref s3.heap.objs.size,v]) ht hT hg (by with_unfolding_all rfl)
def jB (xs:List V) (lo hi:Option Int):List V:=(xs.drop (HT.sIx xs.length 0 lo)).take (HT.sIx xs.length xs.length hi - HT.sIx xs.length 0 lo)
def oU (xs:List V) (lo hi:Option Int):(jB xs lo hi).length<=xs.length:=by
 unfold jB;rw [zaE,zaF];omega
end
def ixN (n:Nat) (i:Int):Option Nat:=if 0<=i then (if i < n then some i.toNat else none) else if -(n:Int)<=i then some (i+n).toNat else none
def atI {α:Type} (xs:List α) (i:Int):Option α:=(ixN xs.length i).bind fun j=>xs[j]?
def pI {n:Nat} {i:Int} {j:Nat} (h:ixN n i=some j):seqIndex? i n=some j/\j < n/\-(n:Int)<=i/\i < n:=by
 unfold ixN at h;by_cases h0:0<=i
 ·rw [if_pos h0] at h;by_cases h1:i < n
  ·rw [if_pos h1] at h;have e:i.toNat=j:=zat h;exact ⟨by rw [seqIndex_of h0 h1,e],by omega,by omega,h1⟩
  ·rw [if_neg h1] at h; cases h
 ·rw [if_neg h0] at h;by_cases h1:-(n:Int)<=i
  ·rw [if_pos h1] at h;have e:(i+n).toNat=j:=zat h;exact ⟨by rw [seqIndex_neg (by omega) h1,e],by omega,h1,by omega⟩
  ·rw [if_neg h1] at h; cases h
def mf {α:Type} {xs:List α} {i:Int} {v:α} (h:atI xs i=some v):∃ j,seqIndex? i xs.length=some j/\xs[j]?=some v/\j < xs.length/\-(xs.length:Int)<=i/\i < xs.length:=by
 unfold atI at h;cases e:ixN xs.length i with
 | none=>rw [e] at h; cases h
 | some j =>
  rw [e] at h;obtain ⟨h1,h2,h3,h4⟩:=pI e;exact ⟨j,h1,h,h2,h3,h4⟩
def dw (b:Expr):Prop:=∀ o i,subscripted b false o i=operate [o,i] (getItem o i)
def IxR (X:Cx) (r:R2):Prop :=
 ∀ (value slice:Expr) (pins:List (Addr × Obj)) (s:Shared) (σ:St) (H:Hp) (x y:V) (v u:Value) (Q:VK),Inv X pins σ H s->RelV x v->RelV y u->r x y H Q ->
  subscripted slice false v u=operate [v,u] (getItem v u)->wpAny (model X.prog X.w) X.A (subscriptTail value slice v u) (EP X pins σ Q) X.xe s
def MtR (X:Cx) (id:String) (r:V->List V->Hp->VK->Prop):Prop :=
 ∀ (pins:List (Addr × Obj)) (s:Shared) (σ:St) (H:Hp) (x:V) (xs:List V) (v:Value) (us:List Value) (Q:VK),Inv X pins σ H s->RelV x v->Vals xs us->r x xs H Q ->
  wpAny (model X.prog X.w) X.A (call (.builtin id) (v :: us)) (EP X pins σ Q) X.xe s
section
variable {X:Cx} {a b:Expr} {ta tb:TE} {pos:Pos}
def IxR.or {r r':R2} (h:IxR X r) (h':IxR X r'):IxR X (fun x y H Q=>r x y H Q\/r' x y H Q):=by
 intro value slice pins s σ H x y v u Q I rx ry q hs;rcases q with q | q
 ·exact h value slice pins s σ H x y v u Q I rx ry q hs
 ·exact h' value slice pins s σ H x y v u Q I rx ry q hs
def mU {r:R2} (hr:IxR X r) (ha:PE X a ta) (hb:PE X b tb) (hs:dw b):PE X (.Subscript a b pos) (tOp r ta tb):=by
 intro pins s σ H Q I h;exact Subscript_ (vb ha hb I h fun v u s2 x y H2 I2 rx ry q=>hr a b pins s2 σ H2 x y v u Q I2 rx ry q (hs _ _))
def qv (K:PySem.W.Frag):R2:=fun x y H Q=>∃ p xs i v,x=.ref p/\y=.int i/\SqL K H p xs/\atI xs i=some v/\Q v H
def Et (K:PySem.W.Frag):R2:=fun x y H Q=>∃ p xs i v,x=.ref p/\y=.int i/\SqT K H p xs/\atI xs i=some v/\Q v H
def Eu:R2:=fun x y H Q=>∃ z i c,x=.str z/\y=.int i/\z.length<=sizeLine/\atI z.cps.toList i=some c/\Q (.str ⟨#[c]⟩) H
def ix_list:IxR X (qv X.K):=by
 intro value slice pins s σ H x y v u Q I rx ry h hs;obtain ⟨p,xs,i,z,rfl,rfl,hq,he,q⟩:=h;cases rx;obtain ⟨t,rfl⟩:=ry;obtain ⟨its,r,pl,hz⟩:=I.list hq;obtain ⟨j,h1,h2,h3,h4,h5⟩:=mf he;obtain ⟨w,ew,rw'⟩:=r.get h2;have hl:=r.length;have hn:=ii;have fin:EP X pins σ Q w s:=⟨z,H,I,rw',q⟩;by_cases h0:0<=i
 ·have hj:i.toNat=j:=by
   rw [seqIndex_of h0 h5] at h1;exact zat h1
  exact item_listR pl.isList h0 (by omega) (by rw [hj]; simpa using ew) fin hs
 ·have hj:(i+(its.toArray.size:Int)).toNat=j:=by
   rw [seqIndex_neg (by omega) h4] at h1;rw [zai,<- hl];exact zat h1
  exact subscriptTail_builtinR (x:=w) pl.isList.typeIs slot_list_getitem.lookup
   (wpAny_getItem_list_neg (Q:=fun r s'=>r=w/\EP X pins σ Q r s') pl.isList (by omega) (by rw [zai] <;> omega) (by omega) (by rw [hj]; simpa using ew) ⟨rfl,fin⟩) hs
def ix_tup:IxR X (Et X.K):=by
 intro value slice pins s σ H x y v u Q I rx ry h hs;obtain ⟨p,xs,i,z,rfl,rfl,hq,he,q⟩:=h;cases rx;obtain ⟨t,rfl⟩:=ry;obtain ⟨its,r,pl,hz⟩:=I.tuple hq;obtain ⟨j,h1,h2,h3,h4,h5⟩:=mf he;obtain ⟨w,ew,rw'⟩:=r.get h2;have hl:=r.length;have hn:=ii;have fin:EP X pins σ Q w s:=⟨z,H,I,rw',q⟩;exact subscriptTail_builtinR (x:=w) pl.typeIs slot_tuple_getitem.lookup
  (getItem_tuple (j:=j) (Q:=fun r s'=>r=w/\EP X pins σ Q r s') pl (by omega) (by omega) (by rw [zai,<- hl]; exact h1) (by simpa using ew) ⟨rfl,fin⟩) hs
def Fc:IxR X Eu:=by
 intro value slice pins s σ H x y v u Q I rx ry h hs;obtain ⟨z,i,c,rfl,rfl,hz,he,q⟩:=h;obtain ⟨t,rfl⟩:=rx;obtain ⟨t',rfl⟩:=ry;obtain ⟨j,h1,h2,h3,h4,h5⟩:=mf he;have hl:z.cps.toList.length=z.length:=by simp [Str.length]
 rw [hl] at h1 h4 h5;have hn:=ii;exact tail_any (typeIs_str s z t) slot_str_getitem.lookup (getItem_str (c:=c) (by
  have e1:decide (i < -(2 ^ 63:Int))=false:=zaA (by omega);have e2:decide (i >= 2 ^ 63)=false:=zaA (by omega);rw [e1,e2,Bool.or_false]) (by rw [h1]; simpa using h2) ⟨.str ⟨#[c]⟩,H,I.tok _,⟨_,rfl⟩,q⟩) hs
def rIx (K:PySem.W.Frag):R2:=fun x y H Q=>qv K x y H Q\/Et K x y H Q\/Eu x y H Q
def ix_seq:IxR X (rIx X.K):=ix_list.or (ix_tup.or Fc)
def qF (its:List Value) (n j:Nat) (u:Value):Obj.mapSeq (·.setIfInBounds j u) { cls:=.type "list",data:=.seq its.toArray n }={ cls:=.type "list",data:=.seq (its.set j u).toArray n }:=by
 simp [Obj.mapSeq]
def Inv.lst {pins:List (Addr × Obj)} {σ:St} {H:Hp} {s:Shared} {p:Addr} {xs:List V} (I:Inv X pins σ H s) (h:H p=some (.lst xs)) :
  ∃ (its:List Value) (n:Nat),Vals xs its/\s.heap.get? p=some { cls:=.type "list",data:=.seq its.toArray n }/\xs.length<=sizeLine:=by
 obtain ⟨z,its,n,r,e⟩:=I.hok p _ h;exact ⟨its,n,r,e,z⟩
def Inv.lstUpd {pins:List (Addr × Obj)} {σ:St} {H:Hp} {s:Shared} {p:Addr} {xs ys:List V} {its its':List Value} {n n':Nat} {f:Obj->Obj} (I:Inv X pins σ H s) (h:H p=some (.lst xs))
  (ho:s.heap.get? p=some { cls:=.type "list",data:=.seq its.toArray n }) (hf:f { cls:=.type "list",data:=.seq its.toArray n }={ cls:=.type "list",data:=.seq its'.toArray n' }) (r:Vals ys its') (hz:ys.length<=sizeLine) (t:Nat) :
  Inv X pins σ (upd H p (.lst ys)) { s with heap:=s.heap.update p f,toks:=t }:=by
 have e:(s.heap.update p f).get? p=some { cls:=.type "list",data:=.seq its'.toArray n' }:=by
  rw [Heap.get?_update_self f ho (by rw [hf] <;> rfl),hf]
 refine I.write (x:=p) (e:=p) (by rw [h]; trivial) (.inl rfl) (fun b u hb q=>(Heap.get?_update_other _ _ (Ne.symm hb)).trans q) ⟨_,e⟩ ?_;exact ⟨hz,its',n',r,e⟩
def qu:V->V->V->Hp->(Hp->Prop)->Prop:=fun o i v H Q=>∃ p xs k j,o=.ref p/\i=.int k/\H p=some (.lst xs)/\ixN xs.length k=some j/\Q (upd H p (.lst (xs.set j v)))
def nb:Gs X qu:=by
 intro pins s σ H o i v ov iv u Q I ro ri rv h;obtain ⟨p,xs,k,j,rfl,rfl,hp,hj,q⟩:=h;cases ro;obtain ⟨t,rfl⟩:=ri;obtain ⟨its,n,r,ho,hz⟩:=I.lst hp;obtain ⟨h1,h2,h3,h4⟩:=pI hj;have hl:=r.length;have hn:=ii;have I':Inv X pins σ (upd H p (.lst (xs.set j v))) { s with heap:=s.heap.update p (Obj.mapSeq (·.setIfInBounds j u)) } :=
  I.lstUpd hp ho (qF its n j u) (r.set rv j) (by rw [zaV]; exact hz) s.toks
 by_cases h0:0<=k
 ·have hk:k.toNat=j:=by
   rw [seqIndex_of h0 h4] at h1;exact zat h1
  exact PySem.W.ki_setAt ho h0 (by omega) (by rw [zai,<- hl]; exact h4) (by rw [hk]; exact ⟨_,I',q⟩)
 ·have hk:(k+(its.toArray.size:Int)).toNat=j:=by
   rw [seqIndex_neg (by omega) h3] at h1;rw [zai,<- hl];exact zat h1
  exact PySem.W.ki_setBack ho (by omega) (by rw [zai,<- hl]; exact h3) (by omega) (by rw [hk]; exact ⟨_,I',q⟩)
def m9 (lo hi:Option Int) (n:Nat):(sliceBounds lo hi none n).1=((HT.sIx n 0 lo:Nat):Int)/\(sliceBounds lo hi none n).2.1=((HT.sIx n n hi:Nat):Int)/\(sliceBounds lo hi none n).2.2=1:=by
 refine ⟨?_,?_,rfl⟩
 ·cases lo with
  | none=>simp [sliceBounds,HT.sIx]
  | some i =>
   simp only [sliceBounds,HT.sIx,Option.getD_none,show (1:Int) > 0 by decide,if_true];by_cases h:i < 0
   ·simp only [h,if_true] <;> omega
   ·simp only [h,if_false] <;> omega
 ·cases hi with
  | none=>simp [sliceBounds,HT.sIx]
  | some i =>
   simp only [sliceBounds,HT.sIx,Option.getD_none,show (1:Int) > 0 by decide,if_true];by_cases h:i < 0
   ·simp only [h,if_true] <;> omega
   ·simp only [h,if_false] <;> omega
def mQ (its:List Value) (lo hi:Option Int):slicePick its.toArray lo hi none=((its.drop (HT.sIx its.length 0 lo)).take (HT.sIx its.length its.length hi - HT.sIx its.length 0 lo)).toArray:=by
 obtain ⟨h1,h2,h3⟩:=m9 lo hi its.toArray.size;unfold slicePick;rw [h1,h2,h3];simp only [sliceRange_one,pick_run,zai] <;> rfl
def uc (K:PySem.W.Frag):V->Option Int->Option Int->Hp->VK->Prop:=fun x lo hi H Q=>∃ a xs,x=.ref a/\SqL K H a xs/\∀ p,H p=none->Q (.ref p) (upd H p (.lst (jB xs lo hi)))
def AM:SlR X (uc X.K):=by
 intro pins s σ H x v vl vu lo hi sl Q I rx hs pl pu h;obtain ⟨a,xs,rfl,hx,q⟩:=h;cases rx;obtain ⟨its,r,ht,hz⟩:=I.list hx;have hlen:=r.length;refine ⟨"list",_,slot_list_getitem.lookup,ht.isList.typeIs,?_⟩;refine wpAny_getItem_list_slice ht.isList hs pl pu .none (by simp) ?_ (by rw [zai] <;> omega);rw [mQ,<- hlen];refine ⟨.ref s.heap.objs.size,_,I.laid (t':=s.toks) (o:=.lst (jB xs lo hi)) (fun b ob q=>zaf _ q) (zav _) ?_,rfl,q _ (I.hok.fresh (zav _))⟩;exact ⟨zau (oU xs lo hi) hz,_,0,(r.drop (HT.sIx xs.length 0 lo)).take (HT.sIx xs.length xs.length hi - HT.sIx xs.length 0 lo),zan _ rfl⟩
def oA:CallR X (.type "list") (fun xs H Q=>∃ p ys,xs=[.ref p]/\(SqL X.K H p ys\/SqT X.K H p ys)/\∀ l,H l=none->Q (.ref l) (upd H l (.lst ys))):=by
 intro pins s σ H xs us Q I r h;obtain ⟨p,ys,rfl,hq,q⟩:=h;obtain ⟨u,rfl,rx⟩:=cF r;cases rx;have fin:∀ (its:List Value),Vals ys its->ys.length<=sizeLine->∀ (h':Heap) (c':Nat),(∀ b o',s.heap.get? b=some o'->h'.get? b=some o') ->
   h'.get? s.heap.objs.size=some { cls:=.type "list",dict:=none,data:=.seq its.toArray c',slots:=#[] }->EP X pins σ Q (.ref s.heap.objs.size) { s with heap:=h' }:=fun its r' hz h' c' kp e =>
  ⟨.ref s.heap.objs.size,_,I.laid (t':=s.toks) kp (zav _) (show ObjOk X.prog X.w _ h' _ (.lst ys) from ⟨hz,its,c',r',e⟩),rfl,q _ (I.hok.fresh (zav _))⟩
 rcases hq with hq | hq
 ·obtain ⟨its,r',pl,hz⟩:=I.list hq;have hlen:=r'.length;obtain ⟨o,ho,hc,n,hd⟩:=pl.isList;exact call_list_seq p (.inl rfl) ho hc hd (fun h' c' kp e=>fin its r' hz h' c' kp e) (by simp only [zai] <;> omega)
 ·obtain ⟨its,r',pl,hz⟩:=I.tuple hq;have hlen:=r'.length;obtain ⟨o,ho,hc,n,hd⟩:=pl;exact call_list_seq p (.inr rfl) ho hc hd (fun h' c' kp e=>fin its r' hz h' c' kp e) (by simp only [zai] <;> omega)
def tyV (K:PySem.W.Frag) (T:String) (x:V) (H:Hp):Prop:=match x with
 | .str _=>T="str"
 | .int _=>T="int"
 | .ref p=>(T="list"/\∃ xs,SqL K H p xs)\/(T="tuple"/\∃ o,K.lookup p=some o/\o.cls=.type "tuple"/\o.dict=none) \/
   (T="dict"/\((∃ kvs,H p=some (.dK kvs))\/∃ kvs,H p=some (.dT kvs)))\/(T="set"/\∃ S n,H p=some (.set S n))
 | _=>False
def Ea {pins:List (Addr × Obj)} {σ:St} {H:Hp} {s:Shared} {T:String} {x:V} {v:Value} (I:Inv X pins σ H s) (r:RelV x v) (ty:tyV X.K T x H) :
  s.TypeIs v T/\∀ a,v=.ref a->∃ ob,s.heap.get? a=some ob/\ob.dict=none:=by
 cases x with
 | str z =>
  obtain ⟨t,rfl⟩:=r;cases (show T="str" from ty);exact ⟨typeIs_str s z t,fun _ e=>nomatch e⟩
 | int i =>
  obtain ⟨t,rfl⟩:=r;cases (show T="int" from ty);exact ⟨typeIs_int s i t,fun _ e=>nomatch e⟩
 | ref p =>
  cases r;rcases ty with ⟨rfl,xs,hq⟩ | ⟨rfl,o,hk,hc,hd⟩ | ⟨rfl,hk⟩ | ⟨rfl,S,n,hk⟩
  ·obtain ⟨its,_,pl,_⟩:=I.list hq;refine ⟨pl.isList.typeIs,fun a e=>?_⟩;cases e;obtain ⟨o,n,e,c,hd,_⟩:=pl;exact ⟨o,e,hd⟩
  ·refine ⟨⟨o,I.kIn p o hk,hc⟩,fun a e=>?_⟩;cases e;exact ⟨o,I.kIn _ o hk,hd⟩
  ·have z:∃ o,s.heap.get? p=some o/\o.ExactDict:=by
    rcases hk with ⟨kvs,hk⟩ | ⟨kvs,hk⟩
    ·obtain ⟨_,_,_,_,o,_,_,e,ex,_⟩:=I.hok p _ hk;exact ⟨o,e,ex⟩
    ·obtain ⟨_,_,_,_,o,_,_,e,ex,_⟩:=I.hok p _ hk;exact ⟨o,e,ex⟩
   obtain ⟨o,e,ex⟩:=z;refine ⟨⟨o,e,ex.1⟩,fun a e2=>?_⟩;cases e2;exact ⟨o,e,ex.2.1⟩
  ·obtain ⟨o,_,_,_,e,ex,_⟩:=I.hok p _ hk;refine ⟨⟨o,e,ex.1⟩,fun a e2=>?_⟩;cases e2;exact ⟨o,e,ex.2.1⟩
 | _=>exact False.elim ty
def tBM (K:PySem.W.Frag) (T:String) (r:V->List V->Hp->VK->Prop) (to:TE) (t:TA):TE:=fun σ H Q=>to σ H fun x H1=>tyV K T x H1/\t σ H1 fun xs H2=>r x xs H2 Q
variable {o e:Expr} {es:List Expr} {to:TE} {t:TA} {name:Str} {apos cpos:Pos} {T id:String} {r:V->List V->Hp->VK->Prop}
def Aq (pa:PlainAttrs T) (slot:Slot T name id) (hty:typeOf (.builtin id)=pure (.type "method_descriptor")) (hm:MtR X id r) (ho:PE X o to) (ha:PA X (e :: es) t)
  (hbase:attributeBase o name X.env (eval o X.env)=eval o X.env:=by rfl)
  (hfew:((backTo cpos (starEach (e :: es) X.env)).all (fun x=>!x.1) && (backToKw cpos (keywordEach [] X.env)).all (fun x=>x.1.isSome)
   && decide ((e :: es).length+([]:List Keyword).length+(if ([]:List Keyword).isEmpty then 0 else 1) < 30))=true:=by rfl)
  (hline:(apos.endLine == cpos.line)=true:=by rfl) (hs:starEach (e :: es) X.env=(false,eval e X.env) :: starEach es X.env:=by rfl) (hplain:(backTo cpos (starEach es X.env)).any (·.1)=false:=by rfl) :
  PE X (.Call (.Attribute o name apos) (e :: es) [] cpos) (tBM X.K T r to t):=by
 intro pins s σ H Q I h;refine wpAny_Call_method_late hbase hfew hline rfl (thn (ho pins s σ H _ I h) fun v s1 ⟨x,H1,I1,r1,ty,q1⟩=>?_);obtain ⟨h1,h2⟩:=Ea I1 r1 ty;refine ⟨T,id,pa,slot,hty,h1,h2,?_⟩;have hA:=ha cpos pins s1 σ H1 _ I1 q1;rw [hs] at hA ⊢;refine Calls.callWith_builtin (by show (false || (backTo cpos (starEach es X.env)).any (·.1))=false; rw [hplain] <;> rfl) (Calls.evalArgs_plain ?_);exact thn hA fun us s2 ⟨vs,H2,I2,r2,q2⟩=>hm pins s2 σ H2 x vs v us Q I2 r1 r2 q2
end
def MtM (X:Cx) (id:String) (r:V->List V->Hp->VK->Prop):Prop :=
 ∀ (pins:List (Addr × Obj)) (s:Shared) (σ:St) (H:Hp) (x:V) (xs:List V) (v:Value) (us:List Value) (Q:VK),Inv X pins σ H s->RelV x v->Vals xs us->r x xs H Q ->
  wpAny (model X.prog X.w) X.A (call (.builtin id) (v :: us)) (EP X pins σ Q) X.xe s
def Vals.one:∀ {x:V} {us:List Value},Vals [x] us->∃ u,us=[u]/\RelV x u
 | _,_,.cons r .nil=>⟨_,rfl,r⟩
def Vals.two {x y:V} {us:List Value} (h:Vals [x,y] us):∃ u v,us=[u,v]/\RelV x u/\RelV y v:=by
 cases h with
 | cons r t =>
  cases t with
  | cons q n =>
   cases n;exact ⟨_,_,rfl,r,q⟩
def Vals.rep {xs:List V} {us:List Value} (h:Vals xs us):∀ k:Nat,Vals (List.replicate k xs).flatten (List.replicate k us).flatten
 | 0=>.nil
 | k+1=>by
  rw [List.replicate_succ,List.replicate_succ,List.flatten_cons,List.flatten_cons];exact Vals.append h (Vals.rep h k)
section
variable {X:Cx} {pins:List (Addr × Obj)} {σ:St} {H:Hp} {s:Shared} {l b:Addr} {xs ys zs:List V}
def Inv.lset {its its':List Value} {n:Nat} {f:Array Value->Array Value} {t':Nat} (I:Inv X pins σ H s) (hH:H l=some (.lst xs))
  (e:s.heap.get? l=some { cls:=.type "list",data:=.seq its.toArray n }) (hf:f its.toArray=its'.toArray) (hv:Vals ys its') (hz:ys.length<=sizeLine) :
  Inv X pins σ (upd H l (.lst ys)) { s with heap:=s.heap.update l (Obj.mapSeq f),toks:=t' }:=by
 have q:=PySem.IsL.update e f;rw [hf] at q;refine I.write (x:=l) (e:=l) (by rw [hH]; exact trivial) (.inl rfl) (fun b' u hb hu=>(Heap.get?_update_other s.heap (Obj.mapSeq f) (Ne.symm hb)).trans hu) ⟨_,q⟩ ?_;exact ⟨hz,its',_,hv,q⟩
def Inv.lnew {its:List Value} {t':Nat} (I:Inv X pins σ H s) (hv:Vals ys its) (hz:ys.length<=sizeLine) :
  Inv X pins σ (upd H s.heap.objs.size (.lst ys)) { s with heap:=s.heap.push { cls:=.type "list",data:=.seq its.toArray },toks:=t' } :=
 I.laid (fun _ _ q=>zaf _ q) (zav _) ⟨hz,its,0,hv,zan _ rfl⟩
def Inv.fresh (I:Inv X pins σ H s):H s.heap.objs.size=none:=I.hok.fresh (zav _)
def Inv.lstM (I:Inv X pins σ H s) (hH:H l=some (.lst xs)):xs.length<=sizeLine/\∃ (its:List Value) (n:Nat),Vals xs its/\xs.length=its.length/\s.heap.get? l=some { cls:=.type "list",data:=.seq its.toArray n }:=by
 obtain ⟨z,its,n,r,e⟩:=I.hok l _ hH;exact ⟨z,its,n,r,r.length,e⟩
def ul {n:Nat} (h:n<=sizeLine):Builtin.List.listTooLong n=false:=by
 unfold Builtin.List.listTooLong;exact zaA (by omega)
end
section
variable {X:Cx}
def lD:V->List V->Hp->VK->Prop:=fun x vs H Q=>∃ l xs y,x=.ref l/\vs=[y]/\H l=some (.lst xs)/\xs.length < sizeLine/\Q .non (upd H l (.lst (xs++[y])))
def jm:MtM X "list.append" lD:=by
 intro pins s σ H x vs v us Q I rx rv h;obtain ⟨l,xs,y,rfl,rfl,hH,hz,q⟩:=h;cases rx;obtain ⟨u,rfl,ru⟩:=rv.one;obtain ⟨z,its,n,r,hl,e⟩:=I.lstM hH;refine call_meets F.slot_list_append ⟨_,e,rfl⟩ F.entry_list_append (F.args_list_append_2 _ _) (PySem.list_append l its.toArray n u (by rw [zai]; omega)) ⟨e,?_⟩;refine ⟨.non,_,I.lset (its':=its++[u]) hH e (by simp) (r.append (.cons ru .nil)) ?_,rfl,q⟩;rw [zae,List.length_singleton];omega
def Bg {α:Type} (xs:List α) (k:Nat):(List.replicate k xs).flatten.length=k * xs.length:=by
 induction k with
 | zero=>simp
 | succ k ih=>rw [List.replicate_succ,List.flatten_cons,zae,ih,Nat.succ_mul,Nat.add_comm]
end
section
variable {prog:Program} {w:World} {A:Around} {E:Value->Shared->Prop} {s:Shared}
end
section
variable {X:Cx}
end
end L2
namespace Att
open PySem PySem.W PySem.Calls PyProof.Rows
def kO {P:Params} {h:Heap}:∀ (ns:List Int) (vs:List Value),WellAll P h vs (ns.map WData.int)->IntsAre vs ns:=by
 intro ns
 induction ns with
 | nil =>
  intro vs w;rw [List.map_nil] at w;cases w;exact .nil
 | cons n ns ih =>
  intro vs w;rw [zar] at w;cases w with
  | cons a b =>
   cases a;exact .cons _ _ (ih _ b)
def rK {l:OpenLaw} {n:Nat} (hn:l.most=some n) {P:Params} {h:Heap} {args:List WData} {vals:List Value}
  (hpre:l.row.toRowW.claim.pre args=true) (hwl:WellAll P h vals args) :
  ∃ a vs ns,vals=[Value.ref a]/\args=[WData.list (ns.map WData.int)]/\h.get? a=some { cls:=.type "list",data:=.seq vs.toArray }/\IntsAre vs ns/\ns.length<=n:=by
 have hsh:WShape.hasAll [] args [.list .int]=true:=(pre_splitW hpre).1;have hc:l.pre.holds [] { args:=args }=true:=(pre_splitW hpre).2;obtain ⟨d,r,rfl,h1,h2⟩:=hasAllW_cons hsh;obtain rfl:=hasAllW_nil h2;obtain ⟨xs,rfl,h3⟩:=hasW_list h1;obtain ⟨ns,rfl⟩:=items_int h3;have hlen:ns.length<=n:=by
  unfold OpenLaw.pre at hc;have h4:(WTm.not (.lt (.lit (.int (n:Int))) (.len (.arg 0)))).holds [] { args:=[.list (ns.map .int)] }=true:=by
   have h4:=(holds_andW hc).1;rw [hn] at h4;exact h4
  have h5:=condW_of h4 (w_not (w_lt w_lit (w_len_list (w_arg rfl))));rw [zad] at h5;refine Nat.le_of_not_lt fun q=>?_;have q':(n:Int) < ((ns.length:Nat):Int):=by omega
  first
   | (rw [zaB q'] at h5; exact absurd h5 (by decide))
   | (simp at h5; omega)
 cases hwl with
 | cons w1 w2 =>
  cases w2;cases w1 with
  | list ho hall=>exact ⟨_,_,ns,rfl,rfl,ho,kO ns _ hall,hlen⟩
def rR (l:OpenLaw) (args:List WData):l.row.toRowW.claim.post args (.bool true) args=true :=
 postW_of (r:=l.row.toRowW) (X:=(true == true))
  (show WShape.has [] (.bool true) .bool=true by first | rfl | decide | simp [WShape.has,WShape.arms,WShape.armsAll])
  (show (WTm.eq .res (.lit (.bool true))).value [] { args:=args,res:=some (.bool true),after:=args }=some (.bool (true == true)) from w_eq_bool (w_res rfl) w_lit) rfl
def attach_call {l:OpenLaw} {n:Nat} {q:Program} {loose:List Str} {XP:(Str->Option Value)->Heap->Prop} {YP:World->Heap->Prop} {d:DefRec}
  (hn:l.most=some n) (hdf:d.params.defaults=[])
  (call:∀ (w:World) (s₀ s₁:Shared) (mg mb:Str->Option Value) (fa:Addr) (o:Obj) (pm cd doc:Value) (a:Addr) (vs:List Value) (ns:List Int),
   Ground q loose [] XP w s₀ mg mb s₁.heap->YP w s₁.heap ->
   s₁.heap.get? fa=some o->o.data=.func (docDef d.name d.params d.body d.scope pm cd doc)->s₁.heap.CodeRec cd d.name->mg d.name=some (.ref fa) ->
   s₁.heap.get? a=some { cls:=.type "list",data:=.seq vs.toArray }->IntsAre vs ns->ns.length<=n->s₁.gens=#[] ->
   codeAny (model l.prog w) callerA (.call (.ref fa) ⟨[.ref a],[]⟩) (fun r s'=>r=.ok (.ret (.bool true))/\OldK s₁.heap s'.heap/\s'.os=s₁.os/\AllBare s'.gens) s₁) :
  WalkO q loose XP YP l.row.toRowW d [] (fun f vs=>PySem.call f vs):=by
 intro w s₀ s₁ mg mb G Y fa o pm cd doc dV kV ho hd hcd hD hmg hg args vals as hpre hlay hrd hwl hlo;obtain rfl:dV=.none:=Dflts.none hD hdf;obtain rfl:kV=.none:=Dflts.noKw hD;obtain ⟨a,vs,ns,rfl,rfl,hobj,hints,hlen⟩:=rK hn hpre hwl;refine enter_call (codeAny_mono (call w s₀ s₁ mg mb fa o pm cd doc a vs ns G Y ho (fd_plain hd) hcd hmg hobj hints hlen hg) fun r s' hq=>?_);obtain ⟨rfl,h2,h3,h4⟩:=hq;exact ⟨.inl ⟨.bool true,.bool true,[],rfl,fun _=>rfl,.bool true,rR l _,fun _=>⟨List.Pairwise.nil,fun _ hm=>(nomatch hm)⟩⟩,h2,h3,h4⟩
section
variable {prog:Program} {w:World} {A:Around} {E:Value->Shared->Prop} {s:Shared} {K:Frag}
end
end Att
namespace L2
open PySem PySem.Spec PyProof.Rows
def mr:∀ {vs:List Value} {ns:List Int},IntsAre vs ns->Vals (ns.map V.int) vs
 | _,_,.nil=>.nil
 | _,_,.cons n t h=>.cons ⟨t,rfl⟩ (mr h)
def vd (H:Hp):Prop:=∀ b,H b=none\/∃ o xs,H b=some (.frz o (.lst xs))
def ux {P:Program} {w:World} {K:PySem.W.Frag} {mg mb:Str->Option Value} {CX:CXT} {k:Nat} {fa a:Addr} {fd:FuncData} {x:Str} {sp:Sp} {s₁:Shared} {vs:List Value} {ns:List Int}
  (KX:K.In s₁.heap) (hns:s₁.heap.Ns mainGlobals mg) (hb:s₁.heap.Ns builtinsNs mb) (hbb:∀ x:Str,x≠"__name__"->mb x=bootBuiltins x) (hlim:s₁.heap.NoLimit) (hmods:∃ mm,s₁.heap.Ns sysModules mm) (hg:s₁.gens=#[])
  (ha:s₁.heap.get? a=some { cls:=.type "list",data:=.seq vs.toArray }) (hi:IntsAre vs ns) (hl:ns.length<=sizeLine) (hr:Room k callerA)
  (F:∀ base:Heap,K.In base->base.Ns mainGlobals mg->FnOk P w K mg base CX k fa fd [x] sp) (hbind:∀ (s:Shared) (u:Value),BindsTo s fd ⟨[u],[]⟩ [(x,u)])
  (hsp:∀ H:Hp,vd H->SqL K H a (ns.map V.int)->sp [.ref a] H (fun v _=>v=.bl true) fun _ _ _=>False)
  (hCX:∀ H e s',CX [] H s₁ (fun _ _ _=>False) e s'->False) :
  codeAny (model P w) callerA (.call (.ref fa) ⟨[.ref a],[]⟩) (fun r s'=>r=.ok (.ret (.bool true))/\OldK s₁.heap s'.heap/\s'.os=s₁.os/\AllBare s'.gens) s₁:=by
 have rv:=mr hi;have lenV:=hi.length;have core:∀ H:Hp,vd H->SqL K H a (ns.map V.int)->HOk P w H s₁.heap->(∀ b,H b≠none->b=a)->(H a≠none->K.lookup a=none) ->
   codeAny (model P w) callerA (.call (.ref fa) ⟨[.ref a],[]⟩) (fun r s'=>r=.ok (.ret (.bool true))/\OldK s₁.heap s'.heap/\s'.os=s₁.os/\AllBare s'.gens) s₁:=by
  intro H hO hS hok hA hK;have base_of:∀ {b:Addr} {o:Obj},s₁.heap.get? b=some o->H b=none->(iK s₁.heap H).get? b=some o:=fun e n=>uH e n;have noA:∀ {b:Addr} {o:Obj} {es:Array DictEntry} {ep:Nat},s₁.heap.get? b=some o->o.data=.dict es ep->H b=none:=fun {b o es ep} e d=>by
   cases q:H b with
   | none=>rfl
   | some u =>
    have e':b=a:=hA b (by rw [q]; simp);subst e';rw [ha] at e; cases e;have d':Data.seq vs.toArray _=Data.dict es ep:=d;cases d'
  have nsK:∀ {b:Addr} {m:Str->Option Value},s₁.heap.Ns b m->(iK s₁.heap H).Ns b m:=fun {b m} ⟨o,es,ep,e,d,r⟩=>⟨o,es,ep,base_of e (noA e d),d,r⟩;have hKb:K.In (iK s₁.heap H):=fun b o e=>base_of (KX b o e) (by
   cases q:H b with
   | none=>rfl
   | some u =>
    have e':b=a:=hA b (by rw [q]; simp);subst e';rw [hK (by rw [q]; simp)] at e; cases e)
  have hM:Mod K mg (iK s₁.heap H):=⟨hKb,nsK hns,⟨mb,nsK hb,hbb⟩,let ⟨mc,h1,h2⟩:=hlim; ⟨mc,nsK h1,h2⟩,let ⟨mm,h1⟩:=hmods; ⟨mm,nsK h1⟩⟩;have e0:Env0 P w K mg (iK s₁.heap H) callerA [] s₁ H:=⟨rfl,hM,fun b o e=>Bb e,Nat.le_of_eq (sD _ _),trivial,fun b hb=>absurd (show b∈([]:List Addr) from hb) (by simp),hok,.of_eq hg⟩;refine codeAny_mono ((F _ hKb (nsK hns)).run callerA [] s₁ H ⟨[.ref a],[]⟩ [.ref a] [.ref a] _ _ hr e0 (hbind s₁ (.ref a)) (.cons rfl .nil) (hsp H hO hS)) fun r s' h=>?_;cases r with
  | error e=>exact (hCX H e s' h).elim
  | ok fl =>
   cases fl with
   | next=>exact False.elim h
   | brk=>exact False.elim h
   | cont=>exact False.elim h
   | ret u =>
    obtain ⟨v,H',os,bare,un,hok',r',q⟩:=h;have q':v=.bl true:=q;subst q';obtain rfl:u=Value.bool true:=r';refine ⟨rfl,OldK.of_keep fun b o e=>?_,os,bare⟩;cases q:H b with
    | none=>exact un.keep b o e q (by intro z; exact absurd (show b∈([]:List Addr) from z) (by simp)) (by simp)
    | some u =>
     rcases hO b with z | ⟨ob,xs,z⟩
     ·rw [q] at z; cases z
     ·have z2:=un.frzs b ob _ z;obtain ⟨e1,_⟩:=hok b _ z;obtain ⟨e2,_⟩:=hok' b _ z2;rw [e] at e1; cases e1;exact e2
 cases hk:K.lookup a with
 | some o =>
  have e:=KX a o hk;rw [ha] at e;cases e;refine core (fun _=>none) (fun _=>.inl rfl) (.inr ⟨_,vs.toArray,_,hk,rfl,rfl,rfl,by rw [zai,lenV]; exact hl,by simpa using rv⟩) (fun b u z=>by have z':(none:Option HO)=some u:=z; cases z') (fun b z=>absurd rfl z) fun z=>absurd rfl z
 | none =>
  refine core (fun b=>if b=a then some (.frz { cls:=.type "list",data:=.seq vs.toArray } (.lst (ns.map V.int))) else none) (fun b=>?_) (.inl (.inr ⟨{ cls:=.type "list",data:=.seq vs.toArray },if_pos rfl⟩)) (fun b u z=>?_) (fun b z=>?_) fun _=>hk
  ·by_cases hb:b=a
   ·exact .inr ⟨_,_,if_pos hb⟩
   ·exact .inl (if_neg hb)
  ·by_cases hb:b=a
   ·have z':=(if_pos hb).symm.trans z;cases z';subst hb;exact ⟨ha,by rw [zad]; exact hl,vs,_,rv,ha⟩
   ·have z':=(if_neg hb).symm.trans z;cases z'
  ·by_cases hb:b=a
   ·exact hb
   ·exact absurd (if_neg hb) z
def walk_of {l:PySem.W.OpenLaw} {n k:Nat} {q:Program} {loose:List Str} {XP:(Str->Option Value)->Heap->Prop} {YP:World->Heap->Prop} {d:DefRec} {K:Params->PySem.W.Frag} {CX:World->CXT} {sp:World->Sp} {x:Str}
  (hn:l.most=some n) (hn2:n<=sizeLine) (hdf:d.params.defaults=[]) (hr:Room k callerA)
  (hq:importsNone q=true) (hY:∀ (w:World) (h:Heap),YP w h->(K w.params).In h)
  (F:∀ (w:World) (mg:Str->Option Value) (fa:Addr) (h:Heap),(K w.params).In h->h.Ns mainGlobals mg->mg d.name=some (.ref fa) ->
   ∃ fd:FuncData,(∀ (s:Shared) (u:Value),BindsTo s fd ⟨[u],[]⟩ [(x,u)]) /\
    ∀ base:Heap,(K w.params).In base->base.Ns mainGlobals mg->FnOk l.prog w (K w.params) mg base (CX w) k fa fd [x] (sp w))
  (hsp:∀ (w:World) (H:Hp) (a:Addr) (ns:List Int),ns.length<=n->vd H->SqL (K w.params) H a (ns.map V.int)->sp w [.ref a] H (fun v _=>v=.bl true) fun _ _ _=>False)
  (hCX:∀ (w:World) (H:Hp) (s:Shared) (e:Value) (s':Shared),CX w [] H s (fun _ _ _=>False) e s'->False) :
  PySem.W.WalkO q loose XP YP l.row.toRowW d [] (fun f vs=>PySem.call f vs):=by
 refine Att.attach_call hn hdf fun w s₀ s₁ mg mb fa o pm cd doc a vs ns G Y ho hd hcd hmg hobj hints hlen hg=>?_;have KX:=hY w _ Y;obtain ⟨fd,hb,hF⟩:=F w mg fa _ KX G.T.g hmg;exact ux KX G.T.g G.T.b G.T.builtins G.T.nolimit (let ⟨mm,hm,_⟩:=(G.T.seer hq).mods; ⟨mm,hm⟩) hg hobj hints (zau hlen hn2) hr hF hb (fun H hO hS=>hsp w H a ns hlen hO hS) fun H e s'=>hCX w H s₁ e s'
def dk (s:Stmt):Arguments:=match s with
 | .FunctionDef _ a _ _ _ _ _ _ _ _=>a
 | _=>{ posonlyargs:=[],args:=[],vararg:=none,kwonlyargs:=[],kw_defaults:=[],kwarg:=none,defaults:=[] }
def ca (s:Stmt):List Stmt:=match s with
 | .FunctionDef _ _ b _ _ _ _ _ _ _=>b
 | _=>[]
def av (s:Stmt):Scope:=match s with
 | .FunctionDef _ _ _ _ _ _ sc _ _ _=>sc
 | _=>{ kind:=.function,names:=[],isGenerator:=false,isCoroutine:=false }
abbrev CX0:CXT:=fun _ _ _ _ _ _=>False
abbrev E0:XK:=fun _ _ _=>False
def GI {X:Cx}:oD CX0 X E0:=fun _ _ _ _ _ _ _ h=>h.elim
structure Fun (K:PySem.W.Frag) (x qual:Str) (st:Stmt) (f:Addr) (fd:FuncData):Prop where
 ex:∃ (oc:Value) (od:Option Addr) (kV doc pm:Value) (an:Option Addr) (cdv ct:Value) (osl:Array (Option Value)),
  fd=PySem.W.fnOf x qual (dk st) (ca st) (av st) .none kV doc pm an cdv ct/\K.lookup f=some ⟨oc,od,.func fd,osl⟩/\PySem.W.codeIn K cdv qual=true
 kp:PySem.W.keepIn K (.ref f)=true
section
variable {P:Program} {w:World} {K:PySem.W.Frag} {mg:Str->Option Value} {base:Heap}
def Fun.ok {x qual:Str} {st:Stmt} {f:Addr} {fd:FuncData} {N ps:List Str} {k:Nat} {sp:Sp} (F:Fun K x qual st f fd) (S:FnScope N ps (av st)) (len:∀ vs H Q E,sp vs H Q E->vs.length=ps.length)
  (hbody:∀ (cdv:Value) (A:Around) (outer:List Env) (s:Shared) (H:Hp) (vs:List V) (Q:VK) (E:XK),Room k (A.deeper (envOfC qual (av st) s.heap.objs.size f cdv))->sp vs H Q E ->
   ∃ t,PSs (km CX0 P w K mg base N qual (av st) f cdv A outer s H E).nox (ca st) t/\t { nx:=fun _ H'=>Q .non H',rt:=Q } (da N vs) H):FnOk P w K mg base CX0 (k+1) f fd ps sp:=by
 obtain ⟨oc,od,kV,doc,pm,an,cdv,ct,osl,rfl,lk,hcd⟩:=F.ex;refine GT lk hcd S len fun A outer s H vs Q E hr hsp=>?_;obtain ⟨t,h,q⟩:=hbody cdv A outer s H vs Q E hr hsp;exact ⟨t,h.nox,q⟩
def Fun.binds {x qual:Str} {st:Stmt} {f:Addr} {fd:FuncData} {ps:List Str} (F:Fun K x qual st f fd)
  (h:∀ (kV doc pm:Value) (an:Option Addr) (cdv ct:Value) (us:List Value),us.length=ps.length->bindArgs (PySem.W.fnOf x qual (dk st) (ca st) (av st) .none kV doc pm an cdv ct) ⟨us,[]⟩=pure (ps.zip us)):Binds K fd ps []:=by
 obtain ⟨oc,od,kV,doc,pm,an,cdv,ct,osl,rfl,lk,hcd⟩:=F.ex;exact .all (h kV doc pm an cdv ct)
def nV {x qual:Str} {st:Stmt} {f:Addr} {oc:Value} {od an:Option Addr} {osl:Array (Option Value)} {kV doc pm cdv ct:Value} (l:K.lookup f=some ⟨oc,od,.func (PySem.W.fnOf x qual (dk st) (ca st) (av st) .none kV doc pm an cdv ct),osl⟩)
  (c:PySem.W.codeIn K cdv qual=true) (k:PySem.W.keepIn K (.ref f)=true):Fun K x qual st f (PySem.W.fnOf x qual (dk st) (ca st) (av st) .none kV doc pm an cdv ct):=⟨⟨oc,od,kV,doc,pm,an,cdv,ct,osl,rfl,l,c⟩,k⟩
end
def bo {A:Around} {k:Nat} (hr:Room k A):A.units+1 < cLine:=Nat.lt_of_le_of_lt (Nat.add_le_add_left (by decide:1<=64) _) hr.units
section
variable {X:Cx}
def pv (i:Nat) {x:Str} {pos:Pos} (hN:X.N[i]?=some x:=by rfl) (hv:Vis X.env.scope x:=by first | exact Or.inl rfl | exact Or.inr (Or.inl rfl) | exact Or.inr (Or.inr rfl)) (hd:(x == ("__debug__" : Str))=false:=by decide)
  (hcd:(x == ("__classdict__" : Str))=false:=by decide):PE X (.Name x pos) (eZ i):=bQ hN hv hd hcd
end
def Gq (H H':Hp):Prop:=∀ b o,H b=some o->H' b=some o
section
variable {κ:Type} [DecidableEq κ]
def dB (kvs:List (κ × V)) (k:κ):Option V:=(kvs.find? fun kv=>decide (kv.1=k)).map (·.2)
def ce (kvs:List (κ × V)) (k:κ) (v:V):List (κ × V) :=
 if (kvs.any fun kv=>decide (kv.1=k))=true then kvs.map (fun kv=>if kv.1=k then (kv.1,v) else kv) else kvs++[(k,v)]
def iu {p:κ × V} {r:List (κ × V)} {k:κ} (e:p.1=k):dB (p :: r) k=some p.2:=by simp [dB,List.find?_cons,e]
def iw {p:κ × V} {r:List (κ × V)} {k:κ} (e:¬ p.1=k):dB (p :: r) k=dB r k:=by simp [dB,List.find?_cons,e]
def m5 (k:κ):∀ kvs:List (κ × V),(kvs.any fun kv=>decide (kv.1=k))=(dB kvs k).isSome
 | []=>rfl
 | p :: r=>by
  rw [List.any_cons];by_cases e:p.1=k
  ·simp only [iu e,zaB e,Bool.true_or,Option.isSome_some]
  ·rw [iw e,zaA e,Bool.false_or]; exact m5 k r
def gX (kvs:List (κ × V)) (k:κ) (v:V):(ce kvs k v).length<=kvs.length+1:=by
 unfold ce;split
 ·rw [zad]; omega
 ·rw [zae,zac,List.length_nil]; omega
def RelO.isSome_eq {o:Option V} {u:Option Value} (r:RelO o u):o.isSome=u.isSome:=by
 cases o with
 | none=>cases u with
  | none=>rfl
  | some _=>exact (show False from r).elim
 | some _=>cases u with
  | none=>exact (show False from r).elim
  | some _=>rfl
def KV.val {kvs:List (κ × V)} {vs:List (κ × Value)} (r:KV kvs vs) (k:κ):RelO (dB kvs k) (valueAt vs k):=by
 unfold KV at r
 induction r with
 | nil=>exact True.intro
 | @cons p q ps qs h t ih =>
  obtain ⟨h1,h2⟩:=h;by_cases e:p.1=k
  ·have e':q.1=k:=h1.symm.trans e;have b:valueAt (q :: qs) k=some q.2:=by simp [valueAt,List.find?_cons,e']
   rw [iu e,b]; exact h2
  ·have e':¬ q.1=k:=fun z=>e (h1.trans z);have b:valueAt (q :: qs) k=valueAt qs k:=by simp [valueAt,List.find?_cons,e']
   rw [iw e,b]; exact ih
def KV.any {kvs:List (κ × V)} {vs:List (κ × Value)} (r:KV kvs vs) (k:κ):(kvs.any fun kv=>decide (kv.1=k))=vs.any fun kv=>decide (kv.1=k):=by
 unfold KV at r
 induction r with
 | nil=>rfl
 | cons h t ih=>rw [List.any_cons,List.any_cons,ih,h.1]
def KV.repl {kvs:List (κ × V)} {vs:List (κ × Value)} (r:KV kvs vs) (k:κ) {y:V} {u:Value} (ry:RelV y u) :
  KV (kvs.map fun kv=>if kv.1=k then (kv.1,y) else kv) (vs.map fun kv=>if kv.1=k then (kv.1,u) else kv):=by
 unfold KV at r ⊢
 induction r with
 | nil=>exact .nil
 | @cons p q ps qs h t ih =>
  rw [zar,zar];refine .cons ?_ ih;obtain ⟨h1,h2⟩:=h;by_cases e:p.1=k
  ·rw [if_pos e,if_pos (h1.symm.trans e)]; exact ⟨h1,ry⟩
  ·rw [if_neg e,if_neg (fun z=>e (h1.trans z))]; exact ⟨h1,h2⟩
def KV.put {kvs:List (κ × V)} {vs:List (κ × Value)} (r:KV kvs vs) (k:κ) {y:V} {u:Value} (ry:RelV y u):KV (ce kvs k y) (stored vs k u):=by
 unfold ce stored;rw [r.any k];by_cases e:(vs.any fun kv=>decide (kv.1=k))=true
 ·rw [if_pos e,if_pos e]; exact r.repl k ry
 ·rw [if_neg e,if_neg e]; exact Paired.snoc r ⟨rfl,ry⟩
def KV.length {kvs:List (κ × V)} {vs:List (κ × Value)} (r:KV kvs vs):kvs.length=vs.length:=Paired.length r
end
def kH {P:Program} {w:World} {k:Key} {u:Value} (r:RelV (kV k) u):(aZ P w).is k u=true:=by
 cases k with
 | inl i=>obtain ⟨t,e⟩:=(show ∃ t,u=Value.int i t from r); subst e; exact oQ P w i t
 | inr x=>obtain ⟨t,e⟩:=(show ∃ t,u=Value.str x t from r); subst e; exact oP P w x t
def EY {a b:Key} (e:kV a=kV b):a=b:=by
 cases a with
 | inl i=>cases b with
  | inl j=>have e':V.int i=V.int j:=e; injection e' with e'; rw [e']
  | inr y=>exact nomatch (show V.int i=V.str y from e)
 | inr x=>cases b with
  | inl j=>exact nomatch (show V.str x=V.int j from e)
  | inr y=>have e':V.str x=V.str y:=e; injection e' with e'; rw [e']
def mz {P:Program} {w:World}:∀ {ks:List Key} {us:List Value},Vals (ks.map kV) us->ItemsAre (aZ P w) ks us
 | [],_,r=>by rw [List.map_nil] at r; cases r; exact .nil
 | k :: ks,_,r=>by
  rw [zar] at r;cases r with
  | cons h t=>exact .cons (kH h) (mz t)
abbrev KT (H:Hp):List (List Key × V)->List (List Key × Addr × Value)->Prop:=Paired fun p q=>p.1=q.1/\H q.2.1=some (.tup (p.1.map kV))/\RelV p.2 q.2.2
def KT.val {H:Hp} {kvs:List (List Key × V)} {xs:List (List Key × Addr × Value)} (r:KT H kvs xs) (k:List Key):RelO (dB kvs k) ((atKey xs k).map (·.2)):=by
 induction r with
 | nil=>exact True.intro
 | @cons p q ps qs h t ih =>
  obtain ⟨h1,_,h2⟩:=h;by_cases e:p.1=k
  ·have e':q.1=k:=h1.symm.trans e;have b:atKey (q :: qs) k=some q.2:=by simp [atKey,List.find?_cons,e']
   rw [iu e,b]; exact h2
  ·have e':¬ q.1=k:=fun z=>e (h1.trans z);have b:atKey (q :: qs) k=atKey qs k:=by simp [atKey,List.find?_cons,e']
   rw [iw e,b]; exact ih
def KT.repl {H:Hp} {kvs:List (List Key × V)} {xs:List (List Key × Addr × Value)} (r:KT H kvs xs) (k:List Key) {y:V} {u:Value} (ry:RelV y u) :
  KT H (kvs.map fun kv=>if kv.1=k then (kv.1,y) else kv) (xs.map (putAt k u)):=by
 induction r with
 | nil=>exact .nil
 | @cons p q ps qs h t ih =>
  rw [zar,zar];refine .cons ?_ ih;obtain ⟨h1,h2,h3⟩:=h;unfold putAt;by_cases e:p.1=k
  ·rw [if_pos e,if_pos (h1.symm.trans e)]; exact ⟨h1,h2,ry⟩
  ·rw [if_neg e,if_neg (fun z=>e (h1.trans z))]; exact ⟨h1,h2,h3⟩
def KT.put {H:Hp} {kvs:List (List Key × V)} {xs:List (List Key × Addr × Value)} (r:KT H kvs xs) (k:List Key) {b:Addr} {y:V} {u:Value} (hb:H b=some (.tup (k.map kV))) (ry:RelV y u) :
  KT H (ce kvs k y) (storedH xs k b u):=by
 have e:(kvs.any fun kv=>decide (kv.1=k))=(atKey xs k).isSome:=by
  rw [m5,(r.val k).isSome_eq,Option.isSome_map]
 unfold ce storedH;rw [e];by_cases q:(atKey xs k).isSome=true
 ·rw [if_pos q,if_pos q]; exact r.repl k ry
 ·rw [if_neg q,if_neg q]; exact Paired.snoc r ⟨rfl,hb,ry⟩
def KT.keeps {H H':Hp} {kvs:List (List Key × V)} {xs:List (List Key × Addr × Value)} (r:KT H kvs xs) (ht:∀ b ys,H b=some (.tup ys)->H' b=some (.tup ys)):KT H' kvs xs :=
 Paired.mapP r fun _ _ z=>⟨z.1,ht _ _ z.2.1,z.2.2⟩
section
variable {P:Program} {w:World} {H:Hp} {h:Heap} {a:Addr}
def Ap {u:HO} (ok:HOk P w H h) (e:Rd H a u):ObjOk P w H h a u:=e.ok ok
def iP {kvs:List (Key × V)} (ok:HOk P w H h) (e:Rd H a (.dK kvs)):kvs.length<=sizeLine/\(a == sysModules)=false/\∃ vs,KV kvs vs/\h.DictOf (aZ P w) a vs :=
 show ObjOk P w H h a (.dK kvs) from Ap ok e
def qU {kvs:List (Key × V)} (ok:HOk P w H h) (e:H a=some (.dK kvs)):kvs.length<=sizeLine/\(a == sysModules)=false/\∃ vs,KV kvs vs/\h.DictOf (aZ P w) a vs:=iP ok (.inl e)
def kG {ks:List Key} (ok:HOk P w H h) (e:H a=some (.tup (ks.map kV))):(tupleKind (aZ P w)).is h ks a:=by
 obtain ⟨_,its,r,o,h1,h2,n,h3⟩:=(show ObjOk P w H h a (.tup (ks.map kV)) from ok a _ e);exact ⟨o,its.toArray,n,h1,h2,h3.1,by simpa using mz r⟩
def mZ {kvs:List (List Key × V)} (ok:HOk P w H h) (e:Rd H a (.dT kvs)):kvs.length<=sizeLine/\(a == sysModules)=false /\
  ∃ xs,KT H kvs xs/\h.DictOfH (tupleKind (aZ P w)) a xs:=by
 obtain ⟨z,y,xs,r,o,es,ep,h1,h2,h3,h4,h5⟩:=(show ObjOk P w H h a (.dT kvs) from Ap ok e);refine ⟨z,y,xs,r,o,es,ep,h1,h2,h3,h4,fun x hx=>?_,h5⟩;have all:∀ {l:List (List Key × V)} {m:List (List Key × Addr × Value)},KT H l m->∀ x∈m,(tupleKind (aZ P w)).is h x.1 x.2.1:=by
  intro l m q
  induction q with
  | nil=>intro x hx; exact nomatch hx
  | @cons p q ps qs hq t ih =>
   intro x hx;rcases zay.mp hx with e | hx
   ·subst e;exact kG ok (by rw [<- hq.1]; exact hq.2.1)
   ·exact ih x hx
 exact all r x hx
def qT {kvs:List (List Key × V)} (ok:HOk P w H h) (e:H a=some (.dT kvs)):kvs.length<=sizeLine/\(a == sysModules)=false /\
  ∃ xs,KT H kvs xs/\h.DictOfH (tupleKind (aZ P w)) a xs:=mZ ok (.inl e)
end
def DGet (H:Hp) (a:Addr) (y:V) (r:Option V):Prop :=
 (∃ kvs k,Rd H a (.dK kvs)/\y=kV k/\r=dB kvs k)\/∃ kvs k b,Rd H a (.dT kvs)/\y=.ref b/\H b=some (.tup (k.map kV))/\r=dB kvs k
def DPut (H:Hp) (a:Addr) (y v:V) (H':Hp):Prop :=
 (∃ kvs k,H a=some (.dK kvs)/\y=kV k/\kvs.length < sizeLine/\H'=upd H a (.dK (ce kvs k v))) \/
 ∃ kvs k b,H a=some (.dT kvs)/\y=.ref b/\H b=some (.tup (k.map kV))/\kvs.length < sizeLine/\H'=upd H a (.dT (ce kvs k v))
def DGet.k {H:Hp} {a:Addr} {kvs:List (Key × V)} {k:Key} (e:H a=some (.dK kvs)):DGet H a (kV k) (dB kvs k):=.inl ⟨kvs,k,.inl e,rfl,rfl⟩
def DPut.k {H:Hp} {a:Addr} {kvs:List (Key × V)} {k:Key} {v:V} (e:H a=some (.dK kvs)) (hl:kvs.length < sizeLine):DPut H a (kV k) v (upd H a (.dK (ce kvs k v))):=.inl ⟨kvs,k,e,rfl,hl,rfl⟩
section
variable {X:Cx} {pins:List (Addr × Obj)} {σ:St} {H:Hp} {s:Shared} {a:Addr} {y v:V} {u r:Value} {o:Option V} {A:Around} {E:Value->Shared->Prop}
def Inv.big (I:Inv X pins σ H s):sysModules < s.heap.objs.size:=by
 have h:mainGlobals < s.heap.objs.size:=(I.mod.glob.keeps I.bk).lt;exact Nat.lt_trans (by decide) h
def tw {Q:Value->Shared->Prop} (hu:A.units+1 < cLine) (I:Inv X pins σ H s) (g:DGet H a y (some v)) (ry:RelV y u) (h:∀ w' s',Inv X pins σ H s'->RelV v w'->Q w' s') :
  wpAny (model X.prog X.w) A (getItem (.ref a) u) Q E s:=by
 rcases g with ⟨kvs,k,e,ey,l⟩ | ⟨kvs,k,b,e,ey,eb,l⟩
 ·subst ey;obtain ⟨z,hd,vs,rel,dd⟩:=iP I.hok e;obtain ⟨w',hw,rw'⟩:=RelO.some_of (v:=v) (o:=valueAt vs k) (by rw [l]; exact rel.val k);exact wpAny_getItem_of (kH ry) dd.mapOf hw (h w' _ (I.tok _) rw')
 ·subst ey;cases (show u=Value.ref b from ry);obtain ⟨z,hd,xs,rel,dd⟩:=mZ I.hok e;obtain ⟨w',hw,rw'⟩:=RelO.some_of (v:=v) (o:=(atKey xs k).map (·.2)) (by rw [l]; exact rel.val k);obtain ⟨p,hp,hp2⟩:=zab.mp hw;refine wpAny_getItem_heap (tupleKind_room_in1 hu) (kG I.hok eb) dd hp ?_;rw [hp2];exact h w' _ (I.tok _) rw'
def Cf {Q:Value->Shared->Prop} (hu:A.units+1 < cLine) (I:Inv X pins σ H s) (g:DGet H a y o) (ry:RelV y u) (h:∀ s',Inv X pins σ H s'->Q (.bool (!o.isSome)) s') :
  wpAny (model X.prog X.w) A (compareOp .NotIn u (.ref a)) Q E s:=by
 rcases g with ⟨kvs,k,e,ey,l⟩ | ⟨kvs,k,b,e,ey,eb,l⟩
 ·subst ey;obtain ⟨z,hd,vs,rel,dd⟩:=iP I.hok e;refine wpAny_notIn_of (kH ry) hd dd.mapOf ?_;rw [<- (rel.val k).isSome_eq,<- l];exact h _ (I.tok _)
 ·subst ey;cases (show u=Value.ref b from ry);obtain ⟨z,hd,xs,rel,dd⟩:=mZ I.hok e;refine wpAny_notIn_heap (tupleKind_room_in1 hu) (kG I.hok eb) hd dd ?_;have q:=(rel.val k).isSome_eq;rw [Option.isSome_map] at q;rw [<- q,<- l];exact h _ (I.tok _)
def l8 {h':Heap} {t':Nat} {ob:HO} (I:Inv X pins σ H s) (mu:Mut (H a)) (hs:Heap.SameBut a s.heap h') (he:∃ q,h'.get? a=some q) (new:ObjOk X.prog X.w (upd H a ob) h' a ob) :
  Inv X pins σ (upd H a ob) { s with heap:=h',toks:=t' } :=
 I.write (x:=a) (e:=a) mu (.inl rfl) (fun b q hb z=>(hs.2 b hb).trans z) he new
def tm {P:Program} {w:World} {H':Hp} {h':Heap} {kvs:List (Key × V)} {vs:List (Key × Value)} (z:kvs.length<=sizeLine) (hd:(a == sysModules)=false) (rel:KV kvs vs) (dd:h'.DictOf (aZ P w) a vs) :
  ObjOk P w H' h' a (.dK kvs):=⟨z,hd,vs,rel,dd⟩
def tq {H':Hp} {Q:Unit->Shared->Prop} (hu:A.units+1 < cLine) (I:Inv X pins σ H s) (g:DPut H a y v H') (ry:RelV y u) (rv:RelV v r) (h:∀ s',Inv X pins σ H' s'->Q () s') :
  wpAny (model X.prog X.w) A (setItem (.ref a) u r) Q E s:=by
 rcases g with ⟨kvs,k,e,ey,l,eH⟩ | ⟨kvs,k,b,e,ey,eb,l,eH⟩
 ·subst ey eH;obtain ⟨z,hd,vs,rel,dd⟩:=qU I.hok e;have hz:vs.length<=sizeLine:=by rw [<- rel.length]; exact z
  have hl:(ce kvs k v).length<=sizeLine:=by have:=gX kvs k v; omega
  refine wpAny_setItem_pairs (hsz:=hz) (kH ry) dd fun h' dd' hs=>h _ ?_;have he:∃ q,h'.get? a=some q:=let ⟨q,_,_,hq,_⟩:=dd'; ⟨q,hq⟩;exact l8 I (by rw [e]; exact True.intro) hs he (tm hl hd (rel.put k rv) dd')
 ·subst ey eH;cases (show u=Value.ref b from ry);obtain ⟨z,hd,xs,rel,dd⟩:=qT I.hok e;have hz:xs.length<=sizeLine:=by rw [<- Paired.length rel]; exact z
  have hl:(ce kvs k v).length<=sizeLine:=by have:=gX kvs k v; omega
  refine wpAny_setItem_heap (hsz:=hz) (tupleKind_room_in1 hu) (kG I.hok eb) dd fun h' dd' hs=>h _ ?_;obtain ⟨q,es,ep,hq,h2,h3,h4,_,h5⟩:=dd';refine l8 I (by rw [e]; exact True.intro) hs ⟨q,hq⟩ ⟨hl,hd,_,(rel.put k eb rv).keeps fun c ys ec=>?_,q,es,ep,hq,h2,h3,h4,h5⟩;rw [ay (GM ec e (fun z=>nomatch z))];exact ec
end
section
variable {X:Cx} {pins:List (Addr × Obj)} {σ:St} {H:Hp} {s:Shared} {a:Addr} {kvs:List (Key × V)} {k:Key} {u:Value} {A:Around} {E:Value->Shared->Prop}
end
def mn (i:Expr):Prop:=∀ ov iv,subscripted i false ov iv=operate [ov,iv] (getItem ov iv)
def AJ {prog:Program} {w:World} {A:Around} {E:Value->Shared->Prop} {s:Shared} {env:Env} {value slice:Expr} {pos:Pos} {T id:String} {Q:Value->Shared->Prop}
  (hl:typeLookup (.type T) "__getitem__"=pure (some (.builtin id))) (hs:mn slice)
  (h:wpAny (model prog w) A (eval value env) (fun o s₁=>wpAny (model prog w) A (eval slice env) (fun i s₂=>s₂.TypeIs o T/\wpAny (model prog w) A (getItem o i) Q E s₂) E s₁) E s) :
  wpAny (model prog w) A (eval (.Subscript value slice pos) env) Q E s:=by
 refine Subscript_ (wpAny_mono h (fun o s₁ h₁=>wpAny_mono h₁ (fun i s₂ h₂=>?_) fun _ _ x=>x) fun _ _ x=>x);obtain ⟨hT,h₂⟩:=h₂;unfold subscriptTail;refine zam ?_;rw [getitemInPython_of_ne hT.not_modules];refine zam (wpAny_specialOf hT hl ?_);have fin:wpAny (model prog w) A (subscripted slice false o i) (fun r s₃=>wpAny (model prog w) A (letTemporaryGo value o r >>= fun _=>pure r) Q E s₃) E s₂:=by
  rw [hs o i];exact wpAny_operating (wpAny_mono h₂ (fun r s₃ h₃=>zam (wpAny_letTemporaryGo (zaT h₃))) fun _ _ x=>x)
 first
  | exact zaT (zam fin)
  | exact zam (zaT (zam fin))
  | exact zam fin
def oT {X:Cx} {pins:List (Addr × Obj)} {σ:St} {H:Hp} {s:Shared} {a:Addr} {y:V} {o:Option V} (I:Inv X pins σ H s) (g:DGet H a y o):s.TypeIs (.ref a) "dict":=by
 rcases g with ⟨kvs,k,e,_,_⟩ | ⟨kvs,k,b,e,_,_,_⟩
 ·obtain ⟨_,_,vs,_,dd⟩:=iP I.hok e;exact dd.typeIs
 ·obtain ⟨_,_,xs,_,dd⟩:=mZ I.hok e;exact dd.typeIs
def qr (td ty:TE):TE:=fun σ H Q=>td σ H fun x H1=>ty σ H1 fun y H2=>∃ a v,x=.ref a/\DGet H2 a y (some v)/\Q v H2
def Hr (ty td:TE):TE:=fun σ H Q=>ty σ H fun y H1=>td σ H1 fun x H2=>∃ a o,x=.ref a/\DGet H2 a y o/\Q (.bl o.isSome) H2
def o0 (ty td:TE):TE:=fun σ H Q=>ty σ H fun y H1=>td σ H1 fun x H2=>∃ a o,x=.ref a/\DGet H2 a y o/\Q (.bl (!o.isSome)) H2
def Ao (td ty tv:TE):TS:=fun D σ H=>tv σ H fun v H1=>td σ H1 fun x H2=>ty σ H2 fun y H3=>∃ a H4,x=.ref a/\DPut H3 a y v H4/\D.nx σ H4
section
variable {X:Cx} {o i e value:Expr} {pos pos' tpos:Pos} {td ty tv:TE}
def pi (hu:X.A.units+1 < cLine) (ho:PE X o td) (hi:PE X i ty) (hs:mn i):PE X (.Subscript o i pos) (qr td ty):=by
 intro pins s σ H Q I h;refine AJ PySem.F.slot_dict_getitem.lookup hs (thn (ho pins s σ H _ I h) fun u s1 ⟨x,H1,I1,rx,q1⟩=>thn (hi pins s1 σ H1 _ I1 q1) fun iv s2 ⟨y,H2,I2,ry,a,v,ex,g,q2⟩=>?_);subst ex;obtain rfl:u=Value.ref a:=rx;exact ⟨oT I2 g,tw hu I2 g ry fun w' s3 I3 rw'=>⟨v,H2,I3,rw',q2⟩⟩
def rW (hu:X.A.units+1 < cLine) (hi:PE X i ty) (ho:PE X o td):PC X .NotIn i o (o0 ty td):=by
 intro pins s σ H Q I h;refine thn (hi pins s σ H _ I h) fun iv s1 ⟨y,H1,I1,ry,q1⟩=>thn (ho pins s1 σ H1 _ I1 q1) fun u s2 ⟨x,H2,I2,rx,a,ov,ex,g,q2⟩=>?_;subst ex;obtain rfl:u=Value.ref a:=rx;exact Cf hu I2 g ry fun s3 I3=>⟨.bl (!ov.isSome),H2,I3,rfl,q2⟩
def AX (hu:X.A.units+1 < cLine) (ho:PE X o td) (hi:PE X i ty) (hv:PE X value tv) (hs:swapsWith value (some (.Subscript o i pos')) pos.line X.env=pure false) :
  PS X (.Assign [.Subscript o i pos'] value pos) (Ao td ty tv):=by
 intro pins s σ H D I h;refine wpAny_Assign_Subscript (thn (hv pins s σ H _ I h) fun r s1 ⟨v,H1,I1,rv,q1⟩=>thn (ho pins s1 σ H1 _ I1 q1) fun u s2 ⟨x,H2,I2,rx,q2⟩=>thn (hi pins s2 σ H2 _ I2 q2) fun iv s3 ⟨y,H3,I3,ry,a,H4,ex,g,q3⟩=>?_) hs;subst ex;obtain rfl:u=Value.ref a:=rx;exact tq hu I3 g ry rv fun s4 I4=>⟨σ,H4,I4,q3⟩
end
def oq {P:Program} {w:World} {H:Hp} (h:Heap) (hb:sysModules < h.objs.size):ObjOk P w H (h.push { cls:=.type "dict",data:=.dict #[] }) h.objs.size (.dK []) :=
 ⟨Nat.zero_le _,beq_eq_false_iff_ne.mpr (Ne.symm (zaw hb)),[],.nil,Heap.DictOf.new h⟩
def Ej:TE:=fun _ H Q=>∀ p,H p=none->Q (.ref p) (upd H p (.dK []))
section
variable {X:Cx} {pos:Pos}
def pe_dnewK:PE X (.Dict [] [] pos) Ej:=fun pins s σ H Q I h =>
 wpAny_Dict_empty ⟨.ref s.heap.objs.size,_,I.laid (a:=s.heap.objs.size) (o:=.dK []) (t':=s.toks) (fun _ _ q=>zaf _ q) (zav _) (oq s.heap I.big),rfl,h _ (I.hok.fresh (zav _))⟩
end
def kx:List (TE × TE)->St->Hp->(List (V × V)->Hp->Prop)->Prop
 | [],_,H,Q=>Q [] H
 | (tk,tv) :: r,σ,H,Q=>tk σ H fun x H1=>tv σ H1 fun y H2=>kx r σ H2 fun ps H3=>Q ((x,y) :: ps) H3
abbrev VV:List (V × V)->List (Value × Value)->Prop:=Paired fun p q=>RelV p.1 q.1/\RelV p.2 q.2
def PPs (X:Cx) (pos:Pos) (keys:List (Option Expr)) (values:List Expr) (trs:List (TE × TE)):Prop :=
 ∀ (pins:List (Addr × Obj)) (s:Shared) (σ:St) (H:Hp) (Q:List (V × V)->Hp->Prop),Inv X pins σ H s->kx trs σ H Q ->
  wpAny (model X.prog X.w) X.A (evalPairs (pairTrees keys values X.env pos)) (fun vs s'=>∃ ps H',Inv X pins σ H' s'/\VV ps vs/\Q ps H') X.xe s
def AZ {X:Cx} {pos:Pos}:PPs X pos [] [] []:=fun pins s σ H Q I h=>pairTrees_nil_walk ⟨[],H,I,.nil,h⟩
def uf {X:Cx} {pos:Pos} {k v:Expr} {ks:List (Option Expr)} {vs:List Expr} {tk tv:TE} {trs:List (TE × TE)} (hk:PE X k tk) (hv:PE X v tv) (hr:PPs X pos ks vs trs) :
  PPs X pos (some k :: ks) (v :: vs) ((tk,tv) :: trs):=fun pins s σ H Q I h =>
 pairTrees_cons_walk (thn (hk pins s σ H _ I h) fun u s1 ⟨x,H1,I1,rx,q1⟩=>thn (hv pins s1 σ H1 _ I1 q1) fun w2 s2 ⟨y,H2,I2,ry,q2⟩ =>
  thn (hr pins s2 σ H2 _ I2 q2) fun ws s3 ⟨ps,H3,I3,rel,q3⟩=>⟨(x,y) :: ps,H3,I3,.cons ⟨rx,ry⟩ rel,q3⟩)
def fA (kvs more:List (Key × V)):List (Key × V):=more.foldl (fun acc kv=>ce acc kv.1 kv.2) kvs
def KV.merge:∀ {more:List (Key × V)} {rs:List (Key × Value)} {kvs:List (Key × V)} {vs:List (Key × Value)},KV more rs->KV kvs vs->KV (fA kvs more) (merged vs rs):=by
 intro more rs kvs vs r;unfold KV at r
 induction r generalizing kvs vs with
 | nil=>intro q; exact q
 | @cons p q ps qs h t ih =>
  intro r0;have e:KV (ce kvs p.1 p.2) (stored vs q.1 q.2):=by
   have:=r0.put p.1 h.2;rw [<- h.1]; exact this
  exact ih e
def jc:∀ (more kvs:List (Key × V)),(fA kvs more).length<=kvs.length+more.length
 | [],kvs=>by show kvs.length<=kvs.length+0; omega
 | p :: r,kvs=>by
  have h1:=jc r (ce kvs p.1 p.2);have h2:=gX kvs p.1 p.2;show (fA (ce kvs p.1 p.2) r).length<=_;rw [zac]; omega
def k8 {P:Program} {w:World}:∀ {kvs:List (Key × V)} {ws:List (Value × Value)},VV (kvs.map fun kv=>(kV kv.1,kv.2)) ws->∃ rs,Carries (aZ P w) ws rs/\KV kvs rs
 | [],_,r=>by rw [List.map_nil] at r; cases r; exact ⟨[],True.intro,.nil⟩
 | p :: kvs,_,r=>by
  rw [zar] at r;cases r with
  | @cons a b as bs h t =>
   obtain ⟨rs,c,q⟩:=k8 (P:=P) (w:=w) t;obtain ⟨b1,b2⟩:=b;exact ⟨(p.1,b2) :: rs,⟨kH h.1,rfl,c⟩,.cons ⟨rfl,h.2⟩ q⟩
def Ak (trs:List (TE × TE)):TE:=fun σ H Q=>∀ p,H p=none->kx trs σ (upd H p (.dK [])) fun ps H2=>H2 p=some (.dK [])/\∃ kvs:List (Key × V),ps=kvs.map (fun kv=>(kV kv.1,kv.2))/\kvs.length<=15/\Q (.ref p) (upd H2 p (.dK (fA [] kvs)))
def A6 {X:Cx} {pos:Pos} {keys:List (Option Expr)} {values:List Expr} {trs:List (TE × TE)} (h:PPs X pos keys values trs) (hall:keys.all (·.isSome)=true) (hl:keys.length=values.length) (h0:keys≠[])
  (h15:keys.length<=15):PE X (.Dict keys values pos) (Ak trs):=by
 intro pins s σ H Q I q;have hn:=I.hok.fresh (zav s.heap.objs.size);have I1:=I.laid (a:=s.heap.objs.size) (o:=.dK []) (h':=s.heap.push { cls:=.type "dict",data:=.dict #[] }) (t':=s.toks) (fun _ _ q=>zaf _ q) (zav _) (oq s.heap I.big);refine wpAny_Dict_walk (knd:=aZ X.prog X.w) hall hl h0 h15 (thn (h pins _ σ _ _ I1 (q _ hn)) fun ws s2 ⟨ps,H2,I2,rel,e,kvs,ep,lk,q2⟩=>?_);subst ep;obtain ⟨rs,c,rk⟩:=k8 (P:=X.prog) (w:=X.w) rel;obtain ⟨z,hd,vs0,r0,dd⟩:=qU I2.hok e;cases r0;refine ⟨rs,c,dd,fun h' dd' hs=>⟨.ref s.heap.objs.size,_,?_,rfl,q2⟩⟩;have hz:(fA [] kvs).length<=sizeLine:=by
  have h1:=jc kvs [];rw [List.length_nil] at h1;rw [sizeLine_eq]; omega
 have he:∃ q,h'.get? s.heap.objs.size=some q:=let ⟨q,_,_,hq,_⟩:=dd'; ⟨q,hq⟩;exact l8 I2 (by rw [e]; exact True.intro) hs he (tm hz hd (rk.merge .nil) dd')
structure M1 (X:Cx) (o:Expr) (m:Str) (apos:Pos) (e:Expr) (cpos:Pos):Prop where
 base:attributeBase o m X.env (eval o X.env)=eval o X.env
 few:((backTo cpos (starEach [e] X.env)).all (fun x=>!x.1) && (backToKw cpos (keywordEach [] X.env)).all (fun x=>x.1.isSome)
  && decide (([e]:List Expr).length+([]:List Keyword).length+(if ([]:List Keyword).isEmpty then 0 else 1) < 30))=true
 line:(apos.endLine == cpos.line)=true
 trees:backTo cpos (starEach [e] X.env)=[(false,eval e X.env)]
structure M2 (X:Cx) (o:Expr) (m:Str) (apos:Pos) (e f:Expr) (cpos:Pos):Prop where
 base:attributeBase o m X.env (eval o X.env)=eval o X.env
 few:((backTo cpos (starEach [e,f] X.env)).all (fun x=>!x.1) && (backToKw cpos (keywordEach [] X.env)).all (fun x=>x.1.isSome)
  && decide (([e,f]:List Expr).length+([]:List Keyword).length+(if ([]:List Keyword).isEmpty then 0 else 1) < 30))=true
 line:(apos.endLine == cpos.line)=true
 trees:backTo cpos (starEach [e,f] X.env)=[(false,eval e X.env),(false,eval f X.env)]
section
variable {X:Cx} {pins:List (Addr × Obj)} {σ:St} {H:Hp} {s:Shared} {a:Addr} {y d:V} {u r:Value} {o:Option V} {A:Around} {E:Value->Shared->Prop}
end
section
variable {X:Cx} {o e f:Expr} {apos cpos:Pos} {td ty tx:TE}
end
section
variable {X:Cx} {pins:List (Addr × Obj)} {σ:St} {H:Hp} {s:Shared} {a:Addr} {kvs:List (Key × V)} {A:Around} {E:Value->Shared->Prop}
end
section
variable {X:Cx} {pins:List (Addr × Obj)} {σ:St} {H:Hp} {s:Shared} {a:Addr} {y:V} {u:Value} {A:Around} {E:Value->Shared->Prop}
end
section
variable {X:Cx}
end
section
variable {κ:Type} [DecidableEq κ]
end
end L2
set_option maxHeartbeats 4000000
namespace L2
open PySem PySem.Spec PyProof.Rows
def BM {α β:Type} {l:List α} {f:α->β->Sem (ForInStep β)} {g:β->α->β} (h:∀ x∈l,∀ c,f x c=pure (.yield (g c x))):∀ c,forIn l c f=pure (l.foldl g c):=by
 induction l with
 | nil=>intro c; rfl
 | cons x l ih =>
  intro c;rw [List.forIn_cons,h x zaq,pure_bind];exact ih (fun y hy=>h y (zaj _ hy)) (g c x)
def dG (env:Env) (acc:List (Str × Addr)) (x:Str × NameKind):List (Str × Addr) :=
 if x.2 == NameKind.free then (x.1,(env.cells.lookup x.1).getD 0) :: acc else acc
def cT (env:Env) (names:List (Str × NameKind)):List (Str × Addr):=names.foldl (dG env) []
def k5 {scope:Scope} {env:Env} (h:∀ y∈scope.names,y.2=.free->∃ c,env.cells.lookup y.1=some c):closureFor scope env=pure (cT env scope.names):=by
 simp only [closureFor];rw [BM (g:=dG env) (fun x hx c=>by
  obtain ⟨n,kind⟩:=x;by_cases hk:kind=.free
  ·obtain ⟨a,e⟩:=h _ hx hk;subst hk;have e':env.cells.lookup n=some a:=e;simp [cellOf,dG,e']
  ·have hb:(kind == NameKind.free)=false:=by simpa using hk
   simp [dG,hb])]
 rfl
def k6 {env:Env}:∀ (names:List (Str × NameKind)) (acc:List (Str × Addr)) (p:Str × Addr),
  p∈names.foldl (dG env) acc->p∈acc\/((p.1,NameKind.free)∈names/\p.2=(env.cells.lookup p.1).getD 0)
 | [],_,_,h=>.inl h
 | (n,k) :: r,acc,p,h=>by
  rw [List.foldl_cons] at h;rcases k6 r _ p h with q | ⟨q,e⟩
  ·unfold dG at q;by_cases hk:(k == NameKind.free)=true
   ·rw [if_pos hk] at q;rcases zay.mp q with z | z
    ·subst z;have hk':k=NameKind.free:=by simpa using hk
     subst hk';exact .inr ⟨zaq,rfl⟩
    ·exact .inl z
   ·rw [if_neg hk] at q;exact .inl q
  ·exact .inr ⟨zaj _ q,e⟩
def j2 {env:Env}:∀ (names:List (Str × NameKind)) (acc:List (Str × Addr)) (p:Str × Addr),p∈acc->p∈names.foldl (dG env) acc
 | [],_,_,h=>h
 | x :: r,acc,p,h=>by
  rw [List.foldl_cons];refine j2 r _ p ?_;unfold dG;split
  ·exact zaj _ h
  ·exact h
def k7 {env:Env} {n:Str}:∀ (names:List (Str × NameKind)) (acc:List (Str × Addr)),(n,NameKind.free)∈names->∃ c,(n,c)∈names.foldl (dG env) acc
 | (m,k) :: r,acc,h=>by
  rw [List.foldl_cons];rcases zay.mp h with e | e
  ·cases e;exact ⟨(env.cells.lookup n).getD 0,j2 r _ _ (by unfold dG; rw [if_pos (show (((n,NameKind.free):Str × NameKind).2 == NameKind.free)=true from rfl)]; exact zaq)⟩
  ·exact k7 r _ e
def fM {α:Type}:∀ {l:List (Str × α)} {n:Str} {c:α},(n,c)∈l->∃ c',l.lookup n=some c'
 | (m,d) :: r,n,c,h=>by
  rw [zas];cases hb:n == m with
  | true=>exact ⟨d,rfl⟩
  | false =>
   rcases zay.mp h with e | e
   ·cases e;simp at hb
   ·exact fM e
def ou {env:Env} {names:List (Str × NameKind)} {n:Str} (h:(n,NameKind.free)∈names):∃ c,(cT env names).lookup n=some c :=
 let ⟨_,e⟩:=k7 (env:=env) names [] h
 fM e
def mG {env:Env} {names:List (Str × NameKind)} {n:Str} {c:Addr} (h:∀ y∈names,y.2=.free->∃ c,env.cells.lookup y.1=some c) (e:(cT env names).lookup n=some c):env.cells.lookup n=some c:=by
 rcases k6 names [] (n,c) (zaU e) with q | ⟨q,z⟩
 ·simp at q
 ·obtain ⟨a,ea⟩:=h _ q rfl;have z':c=(env.cells.lookup n).getD 0:=z;have ea':env.cells.lookup n=some a:=ea;rw [ea'] at z';rw [ea',z'];rfl
def iA {env:Env}:∀ {names:List (Str × NameKind)} {x:Str} {k:NameKind},
  (names.map fun (n,k)=>if (k == NameKind.free && env.scope.kind == .function && env.kindOf n == some .cell) then (n,NameKind.cell) else (n,k)).lookup x=some k ->
  names.lookup x=some k\/(names.lookup x=some .free/\k=.cell)
 | [],_,_,h=>by simp at h
 | (n,k0) :: r,x,k,h=>by
  rw [zar] at h;cases hx:x == n with
  | true =>
   rcases Bool.eq_false_or_eq_true (k0 == NameKind.free && env.scope.kind == .function && env.kindOf n == some .cell) with hc | hc
   ·simp only [hc,if_true,zas,hx] at h;have hk:k0=.free:=by
     simp only [Bool.and_eq_true,beq_iff_eq] at hc;exact hc.1.1
    refine .inr ⟨?_,?_⟩
    ·simp only [zas,hx,hk]
    ·exact (zat h).symm
   ·simp only [hc,Bool.false_eq_true,if_false,zas,hx] at h;refine .inl ?_;simp only [zas,hx];exact h
  | false =>
   have h':(r.map fun (n,k)=>if (k == NameKind.free && env.scope.kind == .function && env.kindOf n == some .cell) then (n,NameKind.cell) else (n,k)).lookup x=some k:=by
    rcases Bool.eq_false_or_eq_true (k0 == NameKind.free && env.scope.kind == .function && env.kindOf n == some .cell) with hc | hc
    ·simp only [hc,if_true,zas,hx] at h;exact h
    ·simp only [hc,Bool.false_eq_true,if_false,zas,hx] at h;exact h
   simp only [zas,hx];exact iA h'
def kA {env:Env}:∀ {names:List (Str × NameKind)} {x:Str},names.lookup x=some .free ->
  (names.map fun (n,k)=>if (k == NameKind.free && env.scope.kind == .function && env.kindOf n == some .cell) then (n,NameKind.cell) else (n,k)).lookup x=some .cell \/
  (names.map fun (n,k)=>if (k == NameKind.free && env.scope.kind == .function && env.kindOf n == some .cell) then (n,NameKind.cell) else (n,k)).lookup x=some .free
 | [],_,h=>by simp at h
 | (n,k0) :: r,x,h=>by
  rw [zar];cases hx:x == n with
  | true =>
   simp only [zas,hx] at h;rcases Bool.eq_false_or_eq_true (k0 == NameKind.free && env.scope.kind == .function && env.kindOf n == some .cell) with hc | hc
   ·refine .inl ?_;simp only [hc,if_true,zas,hx]
   ·refine .inr ?_;simp only [hc,Bool.false_eq_true,if_false,zas,hx];exact h
  | false =>
   simp only [zas,hx] at h;have ih:=kA (env:=env) h;rcases Bool.eq_false_or_eq_true (k0 == NameKind.free && env.scope.kind == .function && env.kindOf n == some .cell) with hc | hc
   ·simp only [hc,if_true,zas,hx];exact ih
   ·simp only [hc,Bool.false_eq_true,if_false,zas,hx];exact ih
def dM (js:List (Option Nat)) (σ:St):St:=js.map fun j=>match j with
 | some j=>(σ[j]?).join
 | none=>none
def PTs (X:Cx) (ifs:List Expr) (tt:TT):Prop :=
 ∀ (pins:List (Addr × Obj)) (s:Shared) (σ:St) (H:Hp) (Q:Bool->Hp->Prop),Inv X pins σ H s->tt σ H Q ->
  wpAny (model X.prog X.w) X.A (forIn ifs true fun c r=>if r=true then do let ok <- isTrue c X.env (eval c X.env); pure (ForInStep.yield ok) else pure (ForInStep.yield r)) (TP X pins σ Q) X.xe s
def Hq:TT:=fun _ H Q=>Q true H
def pts_nil {X:Cx}:PTs X [] Hq:=fun _ _ _ H _ I h=>wpAny_tests_nil ⟨H,I,h⟩
def AT {X:Cx} {c:Expr} {tc:TT} (hc:PT X c tc):PTs X [c] tc:=fun pins s σ H Q I h=>wpAny_tests_one (hc pins s σ H Q I h)
def EV (g:TG) (tt:TT) (te:TE) (D:Addr) (x:V) (τ:St) (H:Hp) (N:St->Hp->Prop):Prop :=
 g x τ H fun τ4 H4=>tt τ4 H4 fun b H5=>if b=true then te τ4 H5 fun v H6=>∃ xs,H6 D=some (.lst xs)/\xs.length < sizeLine/\N τ4 (upd H6 D (.lst (xs++[v]))) else N τ4 H5
def At (J:It) (g:TG) (tt:TT) (te:TE) (σ0:St) (H1:Hp) (D:Addr) (Q:VK):Prop :=
 ∃ W:Nat->Nat->St->Hp->Prop,(∃ m,W 0 m σ0 (upd H1 D (.lst []))) /\
  ∀ i m τ H2,W i m τ H2->(J.stop i H2/\Q (.ref D) H2)\/(J.go i H2/\∃ N:St->Hp->Prop,(∀ τ' H',N τ' H'->∃ m',m' < m/\W (i+1) m' τ' H')/\∀ x H3,J.yld i H2 x H3->EV g tt te D x τ H3 N)
def tLC (wi:TI) (g:TG) (tt:TT) (te:TE) (js:List (Option Nat)):TE:=fun σ H Q =>
 wi σ H fun J H1=>∀ D,H1 D=none->At J g tt te (dM js σ) H1 D Q
def thF {α:Type} {t:Sem α} {Q Q':α->Shared->Prop} {M:Model} {A:Around} {E:Value->Shared->Prop} {s:Shared} (h:wpAny M A t Q (fun _ _=>False) s) (hQ:∀ a s,Q a s->Q' a s):wpAny M A t Q' E s :=
 wpAny_mono h hQ fun _ _ x=>x.elim
section
variable {X:Cx} {elt tg iter:Expr} {ifs:List Expr} {scope:Scope} {pos:Pos} {ns:List Str} {js:List (Option Nat)} {wi:TI} {g:TG} {tt:TT} {te:TE}
end
section
variable {X:Cx}
def qX:∀ (bs:List Bool),(List.range bs.length).all (fun i=>bs.getD i true)=bs.all id:=fun bs=>by
 rw [Bool.eq_iff_iff,List.all_eq_true,List.all_eq_true];constructor
 ·intro h b hb;obtain ⟨i,hi,e⟩:=List.mem_iff_getElem.mp hb;have q:=h i (List.mem_range.mpr hi);rw [List.getD_eq_getElem?_getD,zak hi,e] at q;exact q
 ·intro h i hi;have hi':=List.mem_range.mp hi;rw [List.getD_eq_getElem?_getD,zak hi'];exact h _ (zaK hi')
def u9 (hc:X.calm=true):CallR X (.builtin "all") (fun xs H Q=>∃ (p:Addr) (bs:List Bool),xs=[.ref p]/\SqL X.K H p (bs.map V.bl)/\Q (.bl (bs.all id)) H):=by
 intro pins s σ H xs us Q I r h;obtain ⟨p,bs,rfl,hp,q⟩:=h;obtain ⟨u,rfl,ru⟩:=cF r;cases ru;obtain ⟨its,rv,pl,hz⟩:=I.list hp;have hl:its.length=bs.length:=by rw [<- rv.length,zad]
 have hlt:p < s.heap.objs.size:=by
  obtain ⟨o,n,e,_⟩:=id pl;exact zal e
 refine call_all_walk (wpAny_pyIter_list pl.isList ?_);refine ⟨s.heap.objs.size,[s.heap.objs.size,p],[s.heap.objs.size],its.toArray.size,fun i v=>its.toArray[i]?=some v,_,fun i=>bs.getD i true,rfl,Walks.list (A:=X.A.in1) (show X.A.in1.handled=none from I.ok.hd hc) s.heap.objs.size p (zaw hlt) its.toArray,?_,?_,?_⟩
 ·exact ⟨⟨_,zan _ rfl,rfl,rfl⟩,pl.isList.push _⟩
 ·intro i v s' Q' E' hv hq;have hv':its[i]?=some v:=by simpa using hv
  have hi:i < bs.length:=by
   rw [<- hl];exact (zah.mp hv').1
  obtain ⟨u,hu,ru⟩:=rv.get (i:=i) (x:=V.bl bs[i]) (by rw [zao,zak hi]; rfl);rw [hu] at hv';cases hv';cases ru;have e:bs.getD i true=bs[i]:=by rw [List.getD_eq_getElem?_getD,zak hi]; rfl
  have hq':Q' (bs.getD i true) s':=hq;rw [e] at hq';exact wpAny_truthy_bool hq'
 ·intro h' tk hk;have e:(List.range its.toArray.size).all (fun i=>bs.getD i true)=bs.all id:=by
   rw [<- qX bs,zai,hl]
  rw [e];refine ⟨.bl (bs.all id),H,I.kept (t':=tk) fun b o z=>hk b o ?_ (zaf _ z),rfl,q⟩;intro z';have z'':b=s.heap.objs.size:=by simpa using z'
  exact zaw (zal z) z''
def u8:CallR X (.builtin "isinstance") (fun xs H Q=>∃ x t n b,xs=[x,.ty n]/\TyOf X.K H x t/\PySem.W.kitOne X.K t (.type n)=some b/\Q (.bl b) H):=by
 intro pins s σ H xs us Q I r h;obtain ⟨x,t,n,b,rfl,ty,e,q⟩:=h;obtain ⟨u,w',rfl,r1,r2⟩:=qi r;cases r2;exact sy I r1 ty e fun tk=>⟨.bl b,H,I.tok _,rfl,q⟩
end
section
open PySem.SeqAt
variable {X:Cx} {pins:List (Addr × Obj)} {σ:St} {H:Hp} {s:Shared}
def kt (n:Nat):(List.range n).all (fun _=>true)=true:=by
 rw [List.all_eq_true];intro _ _;rfl
end
section
variable {X:Cx}
def Inv.turnedLaid {pins:List (Addr × Obj)} {σ:St} {H:Hp} {s:Shared} {h':Heap} {t':Nat} {fp:List Addr} {p:Addr} {o:HO} (I:Inv X pins σ H s) (f:∀ b∈fp,fS X pins H b) (hp:s.heap.objs.size<=p)
  (k:∀ b ob,b ∉ fp->s.heap.get? b=some ob->h'.get? b=some ob) (th:∀ b∈fp,∃ ob,h'.get? b=some ob) (new:ObjOk X.prog X.w (upd H p o) h' p o):Inv X pins σ (upd H p o) { s with heap:=h',toks:=t' }:=by
 have hn:H p=none:=I.hok.fresh hp;have ne:∀ b ob,s.heap.get? b=some ob->b≠p:=fun b ob e=>zaw (zag (zal e) hp);have nf:∀ b u,H b=some u->b ∉ fp:=fun b u e z=>by rw [(f b z).1] at e; cases e
 refine I.step (g':=s.gens) (d':=s.drawn) (ch:=fp) (fun b hb=>⟨(f b hb).2.2.2.1,(f b hb).2.1,(f b hb).2.2.2.2.1,(f b hb).2.2.2.2.2⟩) (fun b ob _ _ hc e _=>k b ob hc e) (fun b ob _ _ hc e _=>⟨ob.slots,k b ob hc e⟩)
  (fun b ob _ e n=>by rw [ay (ne b ob e)]; exact n) (fun b ob hc e=>⟨ob,k b ob hc e⟩) (fun b xs e=>by rw [ay (bb e hn)]; exact e) (fun b ob u e=>by rw [ay (bb e hn)]; exact e)
  (fun b ps e=>⟨#[],by rw [ay (bb e hn),e]; simp⟩) (fun m hm=>?_) (fun b u e=>?_) I.bare
 ·obtain ⟨ob,es,ep,ho,r⟩:=hm;exact ⟨ob,es,ep,k _ ob (fun z=>(f _ z).2.1 rfl) ho,r⟩
 ·by_cases hb:b=p
  ·subst hb;rw [aw] at e;cases e;exact new
  ·rw [ay hb] at e;refine (I.hok b u e).stay (fun c v hc q=>k c v ?_ q) (fun c q=>by rw [ay (bb q hn)]; exact q) fun c xs q=>by rw [ay (bb q hn)]; exact q
   rcases hc with z | z
   ·rw [z]; exact nf b u e
   ·exact nf c _ z
def Ite (K:PySem.W.Frag) (a:Addr):It :=
 ⟨fun i H=>∃ xs x,SqL K H a xs/\xs[i]?=some x,
  fun i H y H'=>∃ p x,y=.ref p/\H p=none/\H'=upd H p (.tup [.int i,x])/\∀ xs,SqL K H a xs->xs[i]?=some x,
  fun i H=>∃ xs,SqL K H a xs/\xs.length<=i⟩
def rE {P:Program} {w:World} {K:PySem.W.Frag} {elts:List Expr} {k:Nat} {tp:Pos} (a e it:Addr) (hei:e≠it) :
  Turn P w K (.Tuple elts k tp) (Ite K a) [e,it] e (fun i h=>(∃ old,IsEnum h e it i old)/\h.IsListIter it a i) where
 mem:=by simp
 obj:=fun i h st b hb=>by
  obtain ⟨⟨old,he⟩,o,ho,hc,hd⟩:=st;have hb':b=e\/b=it:=by simpa using hb
  rcases hb' with rfl | rfl
  ·exact ⟨_,he,fun v z=>by
    have z':Data.fields _=Data.cell v:=z;cases z'⟩
  ·exact ⟨o,ho,fun v z=>by rw [hd] at z; cases z⟩
 keep:=fun i h h' st kp=>⟨let ⟨old,he⟩:=st.1; ⟨old,kp e (by simp) _ he⟩,st.2.at fun o q=>kp it (by simp) o q⟩
 item:=by
  intro X hP hw hK hc i pins s σ H E I hf st hg;subst hP hw hK;obtain ⟨xs,x,hq,hx⟩:=hg;obtain ⟨its,rv,p,hz⟩:=I.list hq;obtain ⟨u,hu,ru⟩:=rv.get hx;obtain ⟨⟨old,he⟩,hit⟩:=st;refine wpAny_pyNext_enum_item he hit p.isList (x:=u) (by simpa using hu) hei fun h1 ho1 hit1 ht1 hz1 hk1=>?_;refine ⟨_,rfl,wpAny_letOwnedTupleGo_enum ho1 fun h2 he2 hs2=>?_⟩;have eL:e < s.heap.objs.size:=zal he;have ht2:h2.get? s.heap.objs.size=some { cls:=.type "tuple",data:=.seq #[.int i s.toks,u] }:=(hs2.2 _ (Nat.ne_of_gt eL)).trans ht1;have hit2:h2.IsListIter it a (i+1):=hit1.extBut hs2.extBut hei.symm;have I2:Inv X pins σ (upd H s.heap.objs.size (.tup [.int i,x])) { s with heap:=h2,toks:=s.toks+1 }:=by
   refine I.turnedLaid (fp:=[e,it]) hf (zav _) (fun b ob hb q=>?_) (fun b hb=>?_) ?_
   ·have h1:b≠e:=fun z=>hb (by simp [z]);have h2':b≠it:=fun z=>hb (by simp [z]);exact (hs2.2 b h1).trans (hk1 b ob h1 h2' q)
   ·have hb':b=e\/b=it:=by simpa using hb
    rcases hb' with rfl | rfl
    ·exact ⟨_,he2⟩
    ·obtain ⟨o,ho,_⟩:=hit2;exact ⟨o,ho⟩
   ·refine ⟨(by show 2<=sizeLine; decide),[.int i s.toks,u],.cons ⟨_,rfl⟩ (.cons ru .nil),?_⟩;exact ⟨_,ht2,rfl,_,rfl,rfl⟩
  have fr:∀ b∈[e,it],upd H s.heap.objs.size (.tup [.int i,x]) b=none:=fun b hb=>by
   have hlt:b < s.heap.objs.size:=by
    have hb':b=e\/b=it:=by simpa using hb
    rcases hb' with rfl | rfl
    ·exact eL
    ·obtain ⟨o,ho,_⟩:=hit;exact zal ho
   rw [ay (zaw hlt)];exact (hf b hb).1
  exact ⟨.ref s.heap.objs.size,_,I2,rfl,⟨_,x,rfl,I.fresh,rfl,fun ys hy=>by rw [I.list_inj hy hq]; exact hx⟩,⟨⟨_,he2⟩,hit2⟩,fr⟩
 done:=by
  intro X hP hw hK hc i pins s σ H E I hf st hg;subst hP hw hK;obtain ⟨xs,hq,hx⟩:=hg;obtain ⟨its,rv,p,hz⟩:=I.list hq;obtain ⟨⟨old,he⟩,hit⟩:=st;obtain ⟨f0,f1,f2,f3,f4,f5⟩:=hf it (by simp);have hl:=rv.length;exact wpAny_pyNext_enum_end (I.ok.hd hc) he hit p.isList (by simp; omega) fun h' eb=>⟨rfl,I.turned (t':=s.toks) (fun b o hb q=>eb b o hb q) f0 f1 f3 f4 f5⟩
 self:=fun _ _ _ _ _ st h=>let ⟨⟨_,he⟩,_⟩:=st; wpAny_pyIter_enum he h
end
def Kn (P:Program) (w:World) (K:PySem.W.Frag) (mg:Str->Option Value) (base:Heap) (k:Nat) (x:Str) (ps:List Str) (sp:Sp):Prop :=
 ∃ f fd,FnOk P w K mg base CX0 k f fd ps sp/\mg x=some (.ref f)/\PySem.W.keepIn K (.ref f)=true/\Binds K fd ps []
def Kn.mono {P:Program} {w:World} {K:PySem.W.Frag} {mg:Str->Option Value} {base:Heap} {j k:Nat} {x:Str} {ps:List Str} {sp:Sp} (G:Kn P w K mg base j x ps sp) (h:j<=k):Kn P w K mg base k x ps sp :=
 let ⟨f,fd,a,b,c,d⟩:=G
 ⟨f,fd,a.mono h,b,c,d⟩
section
variable {X:Cx} {k:Nat} {x:Str} {ps:List Str} {sp:Sp} {p pos:Pos} {e:Expr} {es:List Expr} {t:TA}
def qw (G:Kn X.prog X.w X.K X.mg X.base k x ps sp) (hr:Room k X.A) (hg:Gl X x) (ha:PA X (e :: es) t) (hdb:(x == ("__debug__" : Str))=false:=by decide)
  (he:starEach (e :: es) X.env=(false,eval e X.env) :: starEach es X.env:=by rfl) (hpl:(backTo pos (starEach es X.env)).any (·.1)=false:=by rfl) :
  PE X (.Call (.Name x p) (e :: es) [] pos) (mT sp [] E0 t):=by
 obtain ⟨f,fd,F,hm,hk,hb⟩:=G;exact A8 F hr hg hm hk hb .nil GI ha hdb he hpl
end
def Hs (K:PySem.W.Frag):List V->Hp->VK->Prop:=fun xs H Q=>∃ x n,xs=[x]/\Gu K x H n/\Q (.int n) H
def AQ (K:PySem.W.Frag):List V->Hp->VK->Prop:=fun xs H Q=>∃ p ys,xs=[.ref p]/\(SqL K H p ys\/SqT K H p ys)/\∀ l,H l=none->Q (.ref l) (upd H l (.lst ys))
def Ht (K:PySem.W.Frag):List V->Hp->VK->Prop:=fun xs H Q=>∃ (p:Addr) (bs:List Bool),xs=[.ref p]/\SqL K H p (bs.map V.bl)/\Q (.bl (bs.all id)) H
section
variable {X:Cx} {K:PySem.W.Frag}
def Hz (hK:X.K=K):CallR X (.builtin "len") (Hs K):=by subst hK; exact u7
def Bn (hK:X.K=K):CallR X (.type "list") (AQ K):=by subst hK; exact oA
def HB (hK:X.K=K) (hc:X.calm=true):CallR X (.builtin "all") (Ht K):=by subst hK; exact u9 hc
def HA (hK:X.K=K):IxR X (qv K):=by subst hK; exact ix_list
def Hy (hK:X.K=K):SlR X (uc K):=by subst hK; exact AM
variable {tg l:Expr} {tl:TE} {es:List Expr} {t:TGs} {n k:Nat} {pos p p2 cpos apos:Pos}
end
def sgn (c:Nat):V:=.str ⟨#[c]⟩
def Its (z:Str):It:=⟨fun i _=>i < z.cps.size,fun i H x H'=>H'=H/\∃ c,z.cps[i]?=some c/\x=sgn c,fun i _=>z.cps.size<=i⟩
def tT {P:Program} {w:World} {K:PySem.W.Frag} {tg:Expr} (it:Addr) (z:Str) (t:Tok) (ty:String) (hty:ty="str_ascii_iterator"\/ty="str_iterator") :
  Turn P w K tg (Its z) [it] it (fun i h=>h.IsStrIter it ty z t i) where
 mem:=by simp
 obj:=fun i h st b hb=>by
  have e:b=it:=by simpa using hb
  subst e;obtain ⟨o,e,c,d⟩:=st;exact ⟨o,e,fun v q=>by rw [d] at q; cases q⟩
 keep:=fun i h h' st k=>let ⟨o,e,r⟩:=st; ⟨o,k it (by simp) o e,r⟩
 item:=by
  intro X hP hw hK hc i pins s σ H E I hf st hg;subst hP hw hK;obtain ⟨f0,f1,f2,f3,f4,f5⟩:=hf it (by simp);have W:Walks X.prog X.w X.A it [it] [it] z.cps.size (SignAt z) (fun i h=>h.IsStrIter it ty z t i):=by
   rcases hty with rfl | rfl
   ·exact Walks.strAscii (I.ok.hd hc) it z t
   ·exact Walks.strWide (I.ok.hd hc) it z t
  refine W.item i s _ _ hg st fun v h' tk hv st' kk=>?_;obtain ⟨c,u,hcv,rfl⟩:=hv;have I1:Inv X pins σ H { s with heap:=h',toks:=tk }:=I.turned (fun b o hb e=>kk b o (by simpa using hb) e) f0 f1 f3 f4 f5;obtain ⟨o,e,ec,ed⟩:=id st';refine ⟨_,rfl,kQ (s:={ s with heap:=h',toks:=tk }) (n:=ty) e ec ed (by rcases hty with rfl | rfl <;> decide) ⟨sgn c,H,I1,⟨u,rfl⟩,⟨rfl,c,hcv,rfl⟩,st',fun b hb=>(hf b hb).1⟩⟩
 done:=by
  intro X hP hw hK hc i pins s σ H E I hf st hg;subst hP hw hK;obtain ⟨f0,f1,f2,f3,f4,f5⟩:=hf it (by simp);have hle:z.cps.size<=i:=hg;rcases hty with rfl | rfl
  ·exact wpAny_pyNext_ascii_end (I.ok.hd hc) st (by simpa using hle) fun h' he=>⟨rfl,I.turned (t':=s.toks) (fun b o hb e=>he b o hb e) f0 f1 f3 f4 f5⟩
  ·exact wpAny_pyNext_wide_end (I.ok.hd hc) st (by simpa using hle) fun h' he=>⟨rfl,I.turned (t':=s.toks) (fun b o hb e=>he b o hb e) f0 f1 f3 f4 f5⟩
 self:=fun A i s Q E st h=>by
  rcases hty with rfl | rfl
  ·exact wpAny_pyIter_striter_ascii st h
  ·exact wpAny_pyIter_striter_wide st h
section
variable {X:Cx} {tg:Expr} {K:PySem.W.Frag}
def db (z:Str):List V:=z.cps.toList.map sgn
def gS:∀ {xs:List V} {us:List Value},xs.length=us.length->(∀ (i:Nat) x u,xs[i]?=some x->us[i]?=some u->RelV x u)->Vals xs us
 | [],[],_,_=>.nil
 | [],_ :: _,h,_=>by cases h
 | _ :: _,[],h,_=>by cases h
 | x :: xs,u :: us,h,f=>.cons (f 0 x u rfl rfl) (gS (Nat.succ.inj h) fun i y v a b=>f (i+1) y v (by simpa using a) (by simpa using b))
def me (hc:X.calm=true):CallR X (.type "list") (fun xs H Q=>∃ z,xs=[.str z]/\z.cps.size<=sizeLine/\∀ l,H l=none->Q (.ref l) (upd H l (.lst (db z)))):=by
 intro pins s σ H xs us Q I r h;obtain ⟨z,rfl,hz,q⟩:=h;obtain ⟨u,rfl,t,rfl⟩:=cF r;refine call_list_str (I.ok.hd hc) z t (fun h' tk acc c' hk ho hi=>?_) hz;have hl:(db z).length=acc.toList.length:=by
  unfold db;rw [zad,zaY,zaY,hi.1]
 have rv:Vals (db z) acc.toList:=gS hl fun i x v a b=>by
  obtain ⟨c,tk',hcv,rfl⟩:=hi.2 i v (by simpa using b);unfold db at a;rw [zao] at a;have e:z.cps.toList[i]?=some c:=by simpa using hcv
  rw [e] at a;cases a;exact ⟨_,rfl⟩
 refine ⟨.ref s.heap.objs.size,_,I.laid (t':=tk) (o:=.lst (db z)) hk (zav _) ⟨?_,acc.toList,c',rv,by simpa using ho⟩,rfl,q _ I.fresh⟩;unfold db;rw [zad,zaY];exact hz
def HI (xs:List Nat) (lo hi:Option Int):List Nat:=(xs.drop (HT.sIx xs.length 0 lo)).take (HT.sIx xs.length xs.length hi - HT.sIx xs.length 0 lo)
end
def hid (l:List Addr) (H:Hp):Hp:=fun b=>if b∈l then none else H b
section
variable {l l':List Addr} {H H':Hp} {a b:Addr} {o:HO}
end
section
variable {K:PySem.W.Frag}
end
section
variable {X:Cx} {tg:Expr} {K:PySem.W.Frag}
def Inv.turnedMany {pins:List (Addr × Obj)} {σ:St} {H:Hp} {s:Shared} {h':Heap} {t':Nat} {fp:List Addr} (I:Inv X pins σ H s) (f:∀ b∈fp,fS X pins H b)
  (k:∀ b ob,b ∉ fp->s.heap.get? b=some ob->h'.get? b=some ob):Inv X pins σ H { s with heap:=h',toks:=t' }:=by
 have nf:∀ b u,H b=some u->b ∉ fp:=fun b u e z=>by rw [(f b z).1] at e; cases e
 refine I.step (g':=s.gens) (d':=s.drawn) (ch:=fp) (fun b hb=>⟨(f b hb).2.2.2.1,(f b hb).2.1,(f b hb).2.2.2.2.1,(f b hb).2.2.2.2.2⟩) (fun b ob _ _ hc e _=>k b ob hc e) (fun b ob _ _ hc e _=>⟨ob.slots,k b ob hc e⟩)
  (fun _ _ _ _ n=>n) (fun b ob hc e=>⟨ob,k b ob hc e⟩) (fun _ _ e=>e) (fun _ _ _ e=>e) (fun b ps e=>⟨#[],by rw [e]; simp⟩) (fun m hm=>?_) (fun b u e=>?_) I.bare
 ·obtain ⟨ob,es,ep,ho,r⟩:=hm;exact ⟨ob,es,ep,k _ ob (fun z=>(f _ z).2.1 rfl) ho,r⟩
 ·refine (I.hok b u e).stay (fun c v hc q=>k c v ?_ q) (fun _ q=>q) fun _ _ q=>q;rcases hc with z | z
  ·rw [z]; exact nf b u e
  ·exact nf c _ z
def Itz (K:PySem.W.Frag) (a b:Addr):It :=
 ⟨fun i H=>∃ xs ys x y,SqL K H a xs/\SqL K H b ys/\xs[i]?=some x/\ys[i]?=some y,
  fun i H v H'=>∃ p x y,v=.ref p/\H p=none/\H'=upd H p (.tup [x,y])/\(∀ xs,SqL K H a xs->xs[i]?=some x)/\(∀ ys,SqL K H b ys->ys[i]?=some y),
  fun i H=>∃ xs ys,SqL K H a xs/\SqL K H b ys/\(xs.length<=i\/ys.length<=i)⟩
def tS {P:Program} {w:World} {elts:List Expr} {k:Nat} {tp:Pos} (z TI TO i1 i2 a b:Addr) (D:ZipApart z TI TO i1 i2 a b) :
  Turn P w K (.Tuple elts k tp) (Itz K a b) [z,TI,TO,i1,i2] z (fun i h=>IsZip h z TI TO .none/\IsPair h TI (.ref i1) (.ref i2)/\(∃ u v,IsPair h TO u v)/\h.IsListIter i1 a i/\h.IsListIter i2 b i) where
 mem:=by simp
 obj:=fun i h st c hc=>by
  obtain ⟨h1,h2,⟨u,v,h3⟩,⟨o4,g4,_,d4⟩,⟨o5,g5,_,d5⟩⟩:=st;have hc':c=z\/c=TI\/c=TO\/c=i1\/c=i2:=by simpa using hc
  rcases hc' with rfl | rfl | rfl | rfl | rfl
  ·exact ⟨_,h1,fun v q=>by
    have q':Data.fields _=Data.cell v:=q;cases q'⟩
  ·exact ⟨_,h2,fun v q=>by
    have q':Data.seq _ _=Data.cell v:=q;cases q'⟩
  ·exact ⟨_,h3,fun v q=>by
    have q':Data.seq _ _=Data.cell v:=q;cases q'⟩
  ·exact ⟨o4,g4,fun v q=>by rw [d4] at q; cases q⟩
  ·exact ⟨o5,g5,fun v q=>by rw [d5] at q; cases q⟩
 keep:=fun i h h' st kp=>⟨kp z (by simp) _ st.1,kp TI (by simp) _ st.2.1,let ⟨u,v,e⟩:=st.2.2.1; ⟨u,v,kp TO (by simp) _ e⟩,st.2.2.2.1.at fun o q=>kp i1 (by simp) o q,st.2.2.2.2.at fun o q=>kp i2 (by simp) o q⟩
 item:=by
  intro X hP hw hK hc i pins s σ H E I hf st hg;subst hP hw hK;obtain ⟨xs,ys,x,y,hq,hq2,hx,hy⟩:=hg;obtain ⟨its,rv,p,hz⟩:=I.list hq;obtain ⟨its2,rv2,p2,hz2⟩:=I.list hq2;obtain ⟨u,hu,ru⟩:=rv.get hx;obtain ⟨u2,hu2,ru2⟩:=rv2.get hy;obtain ⟨hZ,hTI,⟨c1,c2,hTO⟩,hi1,hi2⟩:=st;refine wpAny_pyNext_zip_item D hZ hTI hTO hi1 hi2 p.isList p2.isList (x:=u) (y:=u2) (by simpa using hu) (by simpa using hu2) fun h1 a1 a2 a3 a4 a5 a6 a7=>?_;refine ⟨_,rfl,wpAny_letOwnedTupleGo_zip a1 fun h2 hz2' hs2=>?_⟩;have zL:z < s.heap.objs.size:=zal hZ;have ht2:IsPair h2 s.heap.objs.size u u2:=(hs2.2 _ (Nat.ne_of_gt zL)).trans a5;have hTI2:IsPair h2 TI (.ref i1) (.ref i2):=(hs2.2 _ D.TIz).trans (a7 _ _ D.TIz D.TITO D.TIi1 D.TIi2 hTI);have hTO2:IsPair h2 TO u u2:=(hs2.2 _ D.TOz).trans a2;have hi1':h2.IsListIter i1 a (i+1):=a3.extBut hs2.extBut D.i1z;have hi2':h2.IsListIter i2 b (i+1):=a4.extBut hs2.extBut D.i2z;have I2:Inv X pins σ (upd H s.heap.objs.size (.tup [x,y])) { s with heap:=h2,toks:=s.toks }:=by
   refine I.turnedLaid (fp:=[z,TI,TO,i1,i2]) hf (zav _) (fun c ob hb q=>?_) (fun c hb=>?_) ?_
   ·have n1:c≠z:=fun e=>hb (by simp [e]);have n3:c≠TO:=fun e=>hb (by simp [e]);have n4:c≠i1:=fun e=>hb (by simp [e]);have n5:c≠i2:=fun e=>hb (by simp [e]);exact (hs2.2 c n1).trans (a7 c ob n1 n3 n4 n5 q)
   ·have hb':c=z\/c=TI\/c=TO\/c=i1\/c=i2:=by simpa using hb
    rcases hb' with rfl | rfl | rfl | rfl | rfl
    ·exact ⟨_,hz2'⟩
    ·exact ⟨_,hTI2⟩
    ·exact ⟨_,hTO2⟩
    ·obtain ⟨o,ho,_⟩:=hi1';exact ⟨o,ho⟩
    ·obtain ⟨o,ho,_⟩:=hi2';exact ⟨o,ho⟩
   ·refine ⟨(by show 2<=sizeLine; decide),[u,u2],.cons ru (.cons ru2 .nil),?_⟩;exact ⟨_,ht2,rfl,_,rfl,rfl⟩
  have fr:∀ c∈[z,TI,TO,i1,i2],upd H s.heap.objs.size (.tup [x,y]) c=none:=fun c hb=>by
   have hlt:c < s.heap.objs.size:=by
    have hb':c=z\/c=TI\/c=TO\/c=i1\/c=i2:=by simpa using hb
    rcases hb' with rfl | rfl | rfl | rfl | rfl
    ·exact zL
    ·exact zal hTI
    ·exact zal hTO
    ·obtain ⟨o,ho,_⟩:=hi1;exact zal ho
    ·obtain ⟨o,ho,_⟩:=hi2;exact zal ho
   rw [ay (zaw hlt)];exact (hf c hb).1
  exact ⟨.ref s.heap.objs.size,_,I2,rfl,⟨_,x,y,rfl,I.fresh,rfl,fun zs hz=>by rw [I.list_inj hz hq]; exact hx,fun zs hz=>by rw [I.list_inj hz hq2]; exact hy⟩,⟨hz2',hTI2,⟨_,_,hTO2⟩,hi1',hi2'⟩,fr⟩
 done:=by
  intro X hP hw hK hc i pins s σ H E I hf st hg;subst hP hw hK;obtain ⟨xs,ys,hq,hq2,he⟩:=hg;obtain ⟨its,rv,p,hz⟩:=I.list hq;obtain ⟨its2,rv2,p2,hz2⟩:=I.list hq2;obtain ⟨hZ,hTI,⟨c1,c2,hTO⟩,hi1,hi2⟩:=st;have l1:=rv.length;have l2:=rv2.length;refine wpAny_pyNext_zip_end (I.ok.hd hc) D hZ hTI hTO hi1 hi2 p.isList p2.isList ?_ fun h' eb=>⟨rfl,I.turnedMany (t':=s.toks) hf fun c o hb q=>eb c o (fun e=>hb (by simp [e])) (fun e=>hb (by simp [e])) (fun e=>hb (by simp [e])) (fun e=>hb (by simp [e])) q⟩;rcases he with he | he
  ·exact .inl (by simp; omega)
  ·exact .inr (by simp; omega)
 self:=fun _ _ _ _ _ st h=>wpAny_pyIter_zip st.1 h
def Fd (K:PySem.W.Frag) (ta:TA):TI:=fun σ H R=>ta σ H fun vs H1=>∃ a b,vs=[.ref a,.ref b]/\(∃ xs,SqL K H1 a xs)/\(∃ ys,SqL K H1 b ys)/\R (Itz K a b) H1
def ED {l m:Expr} {ta:TA} {p pos:Pos} {elts:List Expr} {k:Nat} {tp:Pos} (hg:Gl X "zip") (hm:X.mg "zip"=none) (ha:PA X [l,m] ta) (hs:starEach [l,m] X.env=(false,eval l X.env) :: starEach [m] X.env:=by rfl) (hpl:(backTo pos (starEach [m] X.env)).any (·.1)=false:=by rfl) :
  PI X (.Tuple elts k tp) (.Call (.Name "zip" p) [l,m] [] pos) (Fd X.K ta):=by
 intro pins s σ H R I h;refine Call_ (eK I hg hm boot_zip (PyProof.Rows.callWith_type1 (thn (ha pos pins s σ H _ I h) fun us s1 ⟨vs,H1,I1,r1,q1⟩=>?_) hs hpl));obtain ⟨a,b,e,⟨xs,hq⟩,⟨ys,hq2⟩,q⟩:=q1;subst e;obtain ⟨u,v,rfl,ru,rv'⟩:=qi r1;cases ru;cases rv';obtain ⟨its,rv,pl,hz⟩:=I1.list hq;obtain ⟨its2,rv2,pl2,hz2⟩:=I1.list hq2;have La:a < s1.heap.objs.size:=let ⟨_,e,_⟩:=pl.isList; zal e;have Lb:b < s1.heap.objs.size:=let ⟨_,e,_⟩:=pl2.isList; zal e;refine call_zip_2 pl.isList pl2.isList fun h' hZ hTI hTO hi1 hi2 hsz hk=>?_;refine wpAny_pyIter_zip hZ ?_;have I2:Inv X pins σ H1 { s1 with heap:=h' }:=I1.kept (t':=s1.toks) hk;refine ⟨s1.heap.objs.size+4,[s1.heap.objs.size+4,s1.heap.objs.size+2,s1.heap.objs.size+3,s1.heap.objs.size,s1.heap.objs.size+1],_,_,H1,rfl,I2,tS _ _ _ _ _ a b (zipApart_new La Lb),⟨hZ,hTI,⟨_,_,hTO⟩,hi1,hi2⟩,fun c hb=>?_,q⟩;have hb':s1.heap.objs.size<=c:=by
  have hb':c=s1.heap.objs.size+4\/c=s1.heap.objs.size+2\/c=s1.heap.objs.size+3\/c=s1.heap.objs.size\/c=s1.heap.objs.size+1:=by simpa using hb
  rcases hb' with rfl | rfl | rfl | rfl | rfl <;> omega
 exact I1.fpOk hb' (I1.hok.fresh hb')
def Bk {l m:Expr} {ta:TA} {p pos:Pos} {elts:List Expr} {k:Nat} {tp:Pos} (hK:X.K=K) (hg:Gl X "zip") (hm:X.mg "zip"=none) (ha:PA X [l,m] ta) (hs:starEach [l,m] X.env=(false,eval l X.env) :: starEach [m] X.env:=by rfl) (hpl:(backTo pos (starEach [m] X.env)).any (·.1)=false:=by rfl) :
  PI X (.Tuple elts k tp) (.Call (.Name "zip" p) [l,m] [] pos) (Fd K ta):=by subst hK; exact ED hg hm ha hs hpl
end
section
variable {prog:Program} {w:World} {A:Around} {E:Value->Shared->Prop} {s:Shared}
end
section
variable {X:Cx} {tg:Expr} {K:PySem.W.Frag}
end
abbrev li (z:Str):List Nat:=z.cps.toList
def mk1 (c:Nat):Str:=⟨#[c]⟩
def Sub (x z:List Nat):Prop:=∀ c∈x,c∈z
section
variable {prog:Program} {w:World} {A:Around} {E:Value->Shared->Prop} {s:Shared}
structure ZApart (z TI TO i1 i2:Addr):Prop where
 TIz:TI≠z
 TOz:TO≠z
 i1z:i1≠z
 i2z:i2≠z
 TITO:TI≠TO
 TIi1:TI≠i1
 TIi2:TI≠i2
 TOi1:TO≠i1
 TOi2:TO≠i2
 i12:i1≠i2
end
def qf (n:Nat):ZApart (n+4) (n+2) (n+3) n (n+1):=⟨(by show (n+2:Nat)≠(n+4:Nat); omega),(by show (n+3:Nat)≠(n+4:Nat); omega),(by show (n:Nat)≠(n+4:Nat); omega),(by show (n+1:Nat)≠(n+4:Nat); omega),(by show (n+2:Nat)≠(n+3:Nat); omega),(by show (n+2:Nat)≠(n:Nat); omega),(by show (n+2:Nat)≠(n+1:Nat); omega),(by show (n+3:Nat)≠(n:Nat); omega),(by show (n+3:Nat)≠(n+1:Nat); omega),(by show (n:Nat)≠(n+1:Nat); omega)⟩
section
variable {X:Cx} {K:PySem.W.Frag}
def sC (z y:Str):Bool:=!(Builtin.Str.occurrences z y 0 z.length 1).isEmpty
end
section
open PySem.SeqAt
end
def dL:∀ (names:List (Str × NameKind)) (n:Nat) (acc:List (Str × Addr)),cellsFrom n names acc=cellsFrom n names []++acc
 | [],_,_=>rfl
 | (x,k) :: r,n,acc=>by
  unfold cellsFrom;split
  ·rw [dL r (n+1) ((x,n) :: acc),dL r (n+1) [(x,n)],List.append_assoc];rfl
  ·exact dL r n acc
def fQ:∀ (names:List (Str × NameKind)) (n:Nat) (acc:List (Str × Addr)) {x:Str} {c:Addr},(x,c)∈cellsFrom n names acc->(x,c)∈acc\/(x,NameKind.cell)∈names
 | [],_,_,_,_,h=>.inl h
 | (y,k) :: r,n,acc,x,c,h=>by
  unfold cellsFrom at h;split at h
  ·rename_i hk;rcases fQ r _ _ h with h | h
   ·rcases zay.mp h with e | e
    ·have hk':k=.cell:=by simpa using hk
     have e':=(Prod.mk.inj e).1;rw [e',<- hk'];exact .inr zaq
    ·exact .inl e
   ·exact .inr (zaj _ h)
  ·rcases fQ r _ _ h with h | h
   ·exact .inl h
   ·exact .inr (zaj _ h)
def fj:∀ (names:List (Str × NameKind)) (n:Nat) (acc:List (Str × Addr)) {p:Str × Addr},p∈acc->p∈cellsFrom n names acc
 | [],_,_,_,h=>h
 | (y,k) :: r,n,acc,p,h=>by
  unfold cellsFrom;split
  ·exact fj r _ _ (zaj _ h)
  ·exact fj r _ _ h
def fR:∀ (names:List (Str × NameKind)) (n:Nat) (acc:List (Str × Addr)) {x:Str},(x,NameKind.cell)∈names->∃ c,(x,c)∈cellsFrom n names acc
 | [],_,_,_,h=>by simp at h
 | (y,k) :: r,n,acc,x,h=>by
  unfold cellsFrom;rcases zay.mp h with e | e
  ·cases e;rw [if_pos (by rfl)];exact ⟨n,fj r _ _ zaq⟩
  ·split
   ·exact fR r _ _ e
   ·exact fR r _ _ e
def nG {α:Type}:∀ {a b:List (Str × α)} {x:Str} {c:α},(a++b).lookup x=some c->a.lookup x=some c\/(a.lookup x=none/\b.lookup x=some c)
 | [],_,_,_,h=>.inr ⟨rfl,h⟩
 | (n,v) :: r,b,x,c,h=>by
  rw [List.cons_append,zas] at h;rw [zas];cases e:x == n with
  | true=>rw [e] at h; exact .inl h
  | false=>rw [e] at h; exact nG h
def jn {α:Type}:∀ {a b:List (Str × α)} {x:Str} {c:α},a.lookup x=some c->(a++b).lookup x=some c
 | [],_,_,_,h=>by simp at h
 | (n,v) :: r,b,x,c,h=>by
  rw [List.cons_append,zas];rw [zas] at h;cases e:x == n with
  | true=>rw [e] at h; exact h
  | false=>rw [e] at h; exact jn h
def iH {α:Type}:∀ {a b:List (Str × α)} {x:Str} {c:α},a.lookup x=none->b.lookup x=some c->(a++b).lookup x=some c
 | [],_,_,_,_,h=>h
 | (n,v) :: r,b,x,c,hn,h=>by
  rw [List.cons_append,zas];rw [zas] at hn;cases e:x == n with
  | true=>rw [e] at hn; cases hn
  | false=>rw [e] at hn; exact iH hn h
abbrev aS (X:Cx) (scope:Scope) (ns:List Str) (C:Addr) (cl:List (Str × Addr)) (s₀:Shared) (H₀:Hp) (fp:List Addr):Cx :=
 { X with N:=ns,s₀:=s₀,H₀:=H₀,env:=compEnvC scope cl C X.env,outer:=X.stack,ex:=fp,fn:=fun x=>scope.names.lookup x == some NameKind.cell,pn:=[],xe:=fun _ _=>False }
structure BlkOkC (X:Cx) (scope:Scope) (ns:List Str) (js:List (Option Nat)):Prop where
 kind:scope.kind=.function
 uniq:∀ y∈scope.names,y.2=.cell->scope.names.lookup y.1=some .cell
 names:∀ y∈scope.names,y.2=.local->scope.names.lookup y.1=some .local
 free:∀ y∈scope.names,y.2=.free->X.env.kindOf y.1=some .cell\/X.env.kindOf y.1=some .free
 nd:ns.Nodup
 len:js.length=ns.length
 out:∀ (i:Nat) (x:Str) (j:Nat),ns[i]?=some x->js[i]?=some (some j)->X.N[j]?=some x/\scope.names.lookup x=some .free
def p8 (N:List Str) (sc scope:Scope) (ns:List Str) (js:List (Option Nat)):Bool :=
 decide (scope.kind=.function) && scope.names.all (fun y=>decide (y.2=.cell->scope.names.lookup y.1=some .cell)) && scope.names.all (fun y=>decide (y.2=.local->scope.names.lookup y.1=some .local)) &&
 scope.names.all (fun y=>decide (y.2=.free->sc.names.lookup y.1=some .cell\/sc.names.lookup y.1=some .free)) && decide ns.Nodup && decide (js.length=ns.length) &&
 (List.range ns.length).all (fun i=>match js[i]?,ns[i]? with
  | some (some j),some x=>decide (N[j]?=some x) && decide (scope.names.lookup x=some .free)
  | _,_=>true)
def Ci {N:List Str} {scope:Scope} {ns:List Str} {js:List (Option Nat)} (h7:∀ i < ns.length,(match js[i]?,ns[i]? with
  | some (some j),some x=>decide (N[j]?=some x) && decide (scope.names.lookup x=some .free)
  | _,_=>true)=true) {i:Nat} {x:Str} {j:Nat} (e1:ns[i]?=some x) (e2:js[i]?=some (some j)):N[j]?=some x/\scope.names.lookup x=some .free:=by
 have q:=h7 i (zah.mp e1).1;rw [e1,e2] at q;simpa using q
def BlkOkC.of {X:Cx} {scope:Scope} {ns:List Str} {js:List (Option Nat)} {N0:List Str} {sc0:Scope} (hN:X.N=N0) (hS:X.env.scope=sc0) (h:p8 N0 sc0 scope ns js=true):BlkOkC X scope ns js:=by
 unfold p8 at h;simp only [Bool.and_eq_true,List.all_eq_true,decide_eq_true_eq,List.mem_range] at h;obtain ⟨⟨⟨⟨⟨⟨h1,h2⟩,h3⟩,h4⟩,h5⟩,h6⟩,h7⟩:=h;refine ⟨h1,fun y hy=>h2 y hy,fun y hy=>h3 y hy,fun y hy hk=>?_,h5,h6,fun i x j e1 e2=>?_⟩
 ·have q:=h4 y hy hk;rw [<- hS] at q;exact q
 ·rw [hN];exact Ci h7 e1 e2
section
variable {M:Model} {A:Around} {E:Value->Shared->Prop} {s:Shared}
def gE {scope:Scope} {globals:Addr} {closure:List (Str × Addr)} {qual:Str} {outer:Env} {builtins:Addr} {Q:Env->Shared->Prop}
  (hQ:Q (newEnv scope s.heap.objs.size globals (cellsFrom (s.heap.objs.size+1) scope.names closure) qual none .none (some outer) builtins) { s with heap:=pushCells (s.heap.push { cls:=.type "dict",data:=.dict #[] }) scope.names }) :
  wpAny M A (newFunctionEnv scope globals closure [] qual none .none (some outer) builtins) Q E s:=by
 simp only [newFunctionEnv,Option.isSome_some,if_true];refine zam (wpAny_alloc ?_);refine zam (wpAny_layCells _ (fun name kind cells=>by cases hkc:kind == NameKind.cell <;> simp [hkc]) _ _ _ _ ?_);rw [show ({ s with heap:=s.heap.push { cls:=.type "dict",data:=.dict #[] } }:Shared).heap.objs.size=s.heap.objs.size+1 from Heap.size_push ..];rw [List.forIn_nil];exact zam (zaT (zaT hQ))
end
section
variable {X:Cx} {elt tg iter:Expr} {ifs:List Expr} {scope:Scope} {pos:Pos} {ns:List Str} {js:List (Option Nat)} {wi:TI} {g:TG} {tt:TT} {te:TE}
def va {pins:List (Addr × Obj)} {s3:Shared} {σ:St} {H3:Hp} {fp:List Addr} {h₁:Heap} {tk:Nat} (B:BlkOkC X scope ns js) (I3:Inv X pins σ H3 s3)
  (f3:∀ b∈fp,fS X pins H3 b) (lt3:∀ b∈fp,b < s3.heap.objs.size) (hns:h₁.Ns s3.heap.objs.size (fun _=>none)) (old:∀ b u,s3.heap.get? b=some u->h₁.get? b=some u)
  (cok:CellsOk h₁ (s3.heap.objs.size+1) (cellsFrom (s3.heap.objs.size+1) scope.names [])) :
  Inv (aS X scope ns s3.heap.objs.size (cellsFrom (s3.heap.objs.size+1) scope.names (cT X.env scope.names)) s3 H3 fp) [] (dM js σ) H3 { s3 with heap:=h₁,toks:=tk }:=by
 rw [dL];have hmem:∀ {x:Str} {c:Addr},(x,c)∈cellsFrom (s3.heap.objs.size+1) scope.names []->scope.names.lookup x=some .cell:=fun {x c} h=>by
  rcases fQ _ _ _ h with h | h
  ·simp at h
  ·exact B.uniq _ h rfl
 have hhas:∀ {x:Str},scope.names.lookup x=some .cell->∃ c,(cellsFrom (s3.heap.objs.size+1) scope.names []).lookup x=some c:=fun {x} h=>by
  obtain ⟨c,hc⟩:=fR scope.names (s3.heap.objs.size+1) [] (zaU h);exact fM hc
 generalize cellsFrom (s3.heap.objs.size+1) scope.names []=CS at cok hmem hhas;have has:∀ y∈scope.names,y.2=.free->∃ c,X.env.cells.lookup y.1=some c:=fun y hy hk=>I3.ok.has y.1 (B.free y hy hk);have look:∀ {n:Str} {c:Addr},(CS++cT X.env scope.names).lookup n=some c->(CS.lookup n=some c/\h₁.IsCell c none/\s3.heap.objs.size+1<=c)\/(CS.lookup n=none/\X.env.cells.lookup n=some c/\c < s3.heap.objs.size):=fun {n c} e=>by
  rcases nG e with e | ⟨e1,e2⟩
  ·exact .inl ⟨e,cok.empty n c (zaU e)⟩
  ·have e3:=mG has e2;obtain ⟨v,hv⟩:=I3.cell n c e3;exact .inr ⟨e1,e3,hv.lt⟩
 refine ⟨⟨I3.ok.mod,B.kind,I3.ok.glob,I3.ok.blt,zav _,fun y z c h1 h2=>?_,fun y hy=>?_,fun y c hf h=>?_,I3.ok.hd,I3.ok.frames,.inl rfl,fun b hb=>?_,I3.bs,zau I3.ok.bsz I3.sz,
   fun b o e hb=>?_,fun b hb z=>?_,I3.stack,I3.stkFree⟩,
  rfl,I3.bare,Un.kept old,⟨_,hns,fun i x v h1 h2 h3=>?_⟩,fun y c h=>?_,I3.fresh,fun y c h=>?_,fun p hp=>absurd (show p∈([]:List (Addr × Obj)) from hp) (by simp),I3.hok.kept old,?_⟩
 ·rcases look h1 with ⟨a1,_,a3⟩ | ⟨_,a2,a3⟩ <;> rcases look h2 with ⟨b1,_,b3⟩ | ⟨_,b2,b3⟩
  ·exact name_of_addr cok.apart (zaU a1) (zaU b1)
  ·exact absurd (zag (zag b3 (Nat.le_succ _)) a3) (zaI _)
  ·exact absurd (zag (zag a3 (Nat.le_succ _)) b3) (zaI _)
  ·exact I3.ok.inj y z c a2 b2
 ·have hf:scope.names.lookup y=some .cell\/scope.names.lookup y=some .free:=by
   rcases hy with hy | hy
   ·rcases iA (env:=X.env) hy with q | q
    ·exact .inl q
    ·exact .inr q.1
   ·rcases iA (env:=X.env) hy with q | q
    ·exact .inr q
    ·exact .inr q.1
  show ∃ c,(CS++cT X.env scope.names).lookup y=some c;rcases hf with hf | hf
  ·obtain ⟨c,hc⟩:=hhas hf;exact ⟨c,jn hc⟩
  ·obtain ⟨c,hc⟩:=ou (env:=X.env) (zaU hf);cases e:CS.lookup y with
   | none=>exact ⟨c,iH e hc⟩
   | some d=>exact ⟨d,jn e⟩
 ·rcases look h with ⟨_,_,a3⟩ | ⟨a1,_,_⟩
  ·show s3.heap.objs.size<=c;omega
  ·have hf':(scope.names.lookup y == some NameKind.cell)=true:=hf;obtain ⟨d,hd⟩:=hhas (by simpa using hf');rw [a1] at hd;cases hd
 ·refine ⟨zaw (lt3 b hb),fun x c e=>?_⟩;rcases look e with ⟨_,_,a3⟩ | ⟨_,a2,_⟩
  ·have:=lt3 b hb;intro z;subst z;exact zaI _ (zag (zag this (Nat.le_succ _)) a3)
  ·exact (f3 b hb).2.2.2.2.1 x c a2
 ·rcases (f3 b hb).2.2.2.1 with z | z
  ·exact I3.ok.noex b o e z
  ·exact absurd (zag (zag (zal e) I3.ok.bsz) z) (zaI _)
 ·rcases zay.mp (I3.stkSub b z) with q | q
  ·exact (f3 b hb).2.1 q
  ·exact (f3 b hb).2.2.1 q
 ·have h2':(js.map fun j=>match j with | some j=>(σ[j]?).join | none=>none)[i]?=some (some v):=h2;rw [zao] at h2';obtain ⟨j,hj,hσ⟩:∃ j,js[i]?=some (some j)/\σ[j]?=some (some v):=by
   cases e:js[i]? with
   | none=>rw [e] at h2'; simp at h2'
   | some oj =>
    rw [e] at h2';cases oj with
    | none=>simp at h2'
    | some j =>
     refine ⟨j,rfl,?_⟩;have q:(σ[j]?).join=some v:=by simpa using h2'
     cases e2:σ[j]? with
     | none=>rw [e2] at q; simp at q
     | some ov =>
      rw [e2] at q;simp at q;rw [q]
  obtain ⟨hN,hfr⟩:=B.out i x j h1 hj;have hf:=B.free (x,.free) (zaU hfr) rfl;have hf':X.env.kindOf x=some .cell\/X.env.kindOf x=some .free:=hf;obtain ⟨m,hn,hl⟩:=I3.loc;obtain ⟨u,r,l⟩:=hl j x v hN hσ (by
   rcases hf' with z | z
   ·exact .inr (.inl z)
   ·exact .inr (.inr z))
  refine ⟨u,r,?_⟩;rcases l with ⟨hk,_⟩ | ⟨hk,c,hc,hcell⟩
  ·rcases hf' with z | z
   ·rw [z] at hk; cases hk
   ·rw [z] at hk; cases hk
  ·obtain ⟨c',hc'⟩:=ou (env:=X.env) (zaU hfr);have e':=mG has hc';rw [hc] at e';cases e';obtain ⟨o,ho,hd⟩:=hcell;have hno:CS.lookup x=none:=by
    cases e:CS.lookup x with
    | none=>rfl
    | some d =>
     have q:=hmem (zaU e);rw [hfr] at q;cases q
   exact .inr ⟨kA (env:=X.env) hfr,c,iH hno hc',⟨o,old c o ho,hd⟩⟩
 ·rcases look h with ⟨_,a2,_⟩ | ⟨_,a2,_⟩
  ·exact ⟨_,a2⟩
  ·obtain ⟨v,o,ho,hd⟩:=I3.cell y c a2;exact ⟨v,o,old c o ho,hd⟩
 ·rcases look h with ⟨_,_,a3⟩ | ⟨_,a2,_⟩
  ·exact I3.hok.fresh (by omega)
  ·exact I3.freeC y c a2
 ·show (js.map _).length=ns.length;rw [zad];exact B.len
def nI {pins:List (Addr × Obj)} {s2:Shared} {σ:St} {H2:Hp} {Qv:VK} {J:It} {fp:List Addr} {it:Addr} {tn:Nat->Heap->Prop} {RR:Value->Addr->Result->Shared->Prop}
  (B:BlkOkC X scope ns js) (hc:X.calm=true) (I2:Inv X pins σ H2 s2) (T:Turn X.prog X.w X.K tg J fp it tn) (st2:tn 0 s2.heap) (f2:∀ b∈fp,fS X pins H2 b)
  (hg:∀ C cl s₀ H₀ fp,PG (aS X scope ns C cl s₀ H₀ fp) tg g) (ht:∀ C cl s₀ H₀ fp,PTs (aS X scope ns C cl s₀ H₀ fp) ifs tt) (he:∀ C cl s₀ H₀ fp,PE (aS X scope ns C cl s₀ H₀ fp) elt te)
  (hw:∀ D,H2 D=none->At J g tt te (dM js σ) H2 D Qv)
  (hRR:∀ D C s' H',Inv X pins σ H' s'->Qv (.ref D) H'->(∃ m,s'.heap.Ns C m)->H' C=none->C≠X.env.locals->X.s₀.heap.objs.size<=C->(∀ x c,X.env.cells.lookup x=some c->c≠C)->(∀ p∈X.pn++pins,p.1≠C)->RR (.ref D) C (.ok .next) s') :
  wpAny (model X.prog X.w) X.A (newList []) (fun acc s₃=>wpAny (model X.prog X.w) X.A (newFunctionEnv scope X.env.globals (cT X.env scope.names) [] X.env.qual none .none (some X.env)) (fun cenv s₄ =>
   codeAny (model X.prog X.w) X.A (.compStart (.ListComp elt [⟨tg,iter,ifs,0⟩] scope pos) 0 (.ref it) acc { cenv with scope:=relabel scope X.env }) (RR acc cenv.locals) s₄) X.xe s₃) X.xe s2:=by
 refine wpAny_newObj_type (gE ?_)
 dsimp only
 have I3:Inv X pins σ (upd H2 s2.heap.objs.size (.lst [])) { s2 with heap:=s2.heap.push { cls:=.type "list",data:=.seq ([]:List Value).toArray },toks:=s2.toks }:=I2.lnew .nil (Nat.zero_le _);generalize hs3:({ s2 with heap:=s2.heap.push { cls:=.type "list",data:=.seq ([]:List Value).toArray },toks:=s2.toks }:Shared)=s3 at I3;have e3:s3.heap=s2.heap.push { cls:=.type "list",data:=.seq ([]:List Value).toArray }:=by rw [<- hs3]
 have k3:∀ b u,s2.heap.get? b=some u->s3.heap.get? b=some u:=fun b u e=>by rw [e3]; exact zaf _ e
 have sz3:s3.heap.objs.size=s2.heap.objs.size+1:=by rw [e3,Heap.size_push]
 have hD:H2 s2.heap.objs.size=none:=I2.fresh;obtain ⟨h₁,hh₁⟩:∃ h₁,h₁=pushCells (s3.heap.push { cls:=.type "dict",data:=.dict #[] }) scope.names:=⟨_,rfl⟩;have old:∀ b u,s3.heap.get? b=some u->h₁.get? b=some u:=fun b u e=>by
  rw [hh₁];exact pushCells_keeps _ _ b u (zaf _ e)
 have hns:h₁.Ns s3.heap.objs.size (fun _=>none):=by
  rw [hh₁];exact (Heap.Ns.new s3.heap (.type "dict")).keeps (pushCells_keeps _ _)
 have cok:CellsOk h₁ (s3.heap.objs.size+1) (cellsFrom (s3.heap.objs.size+1) scope.names []):=by
  have q:=cellsFrom_ok scope.names (s3.heap.push { cls:=.type "dict",data:=.dict #[] }) (s3.heap.objs.size+1) [] ⟨fun _ _ hm=>(nomatch hm),List.Pairwise.nil⟩ (by rw [Heap.size_push]; exact zav _);rw [Heap.size_push,<- hh₁] at q;exact q
 have obj2:∀ b∈fp,b < s2.heap.objs.size:=fun b hb=>let ⟨o,e,_⟩:=T.obj 0 _ st2 b hb; zal e;have f3:∀ b∈fp,fS X pins (upd H2 s2.heap.objs.size (.lst [])) b:=fun b hb=>⟨by rw [ay (zaw (obj2 b hb))]; exact (f2 b hb).1,(f2 b hb).2⟩;have lt3:∀ b∈fp,b < s3.heap.objs.size:=fun b hb=>by rw [sz3]; exact Nat.lt_succ_of_lt (obj2 b hb)
 obtain ⟨W,⟨m0,w0⟩,turn⟩:=hw _ hD;have J0:=fun tk=>va (tk:=tk) B I3 f3 lt3 hns old cok;have has:∀ y∈scope.names,y.2=.free->∃ c,X.env.cells.lookup y.1=some c:=fun y hy hk=>I2.ok.has y.1 (B.free y hy hk);have stat:∀ {H':Hp},(∀ b∈fp,H' b=none)->∀ b∈fp,fS (aS X scope ns s3.heap.objs.size (cellsFrom (s3.heap.objs.size+1) scope.names (cT X.env scope.names)) s3 (upd H2 s2.heap.objs.size (.lst [])) fp) [] H' b:=fun hn b hb =>
  ⟨hn b hb,zaw (lt3 b hb),(J0 0).ok.exfs b hb,.inl hb,fun x c e=>(J0 0).ok.exf b hb |>.2 x c e,fun p hp=>absurd (show p∈([]:List (Addr × Obj)) from hp) (by simp)⟩
 have fin:∀ {τ:St} {H':Hp} {s':Shared},Inv (aS X scope ns s3.heap.objs.size (cellsFrom (s3.heap.objs.size+1) scope.names (cT X.env scope.names)) s3 (upd H2 s2.heap.objs.size (.lst [])) fp) [] τ H' s'->Qv (.ref s2.heap.objs.size) H'->RR (.ref s2.heap.objs.size) s3.heap.objs.size (.ok .next) s':=fun {τ H' s'} I6 q=>by
  have u1:Un (frs X.stack) fp H2 (upd H2 s2.heap.objs.size (.lst [])) s2.heap s3.heap:=Un.laid k3 (zav _) hD;have os3:s3.os=s2.os:=by rw [<- hs3]
  have I7:Inv X pins σ H' s':=I2.call' (ch:=fp) (I6.os.trans os3) (u1.trans I6.base) I6.hok I6.bare fun b hb=>⟨(f2 b hb).2.2.2.1,(f2 b hb).2.1,(f2 b hb).2.2.2.2.1,(f2 b hb).2.2.2.2.2⟩;have le2:s2.heap.objs.size<=s3.heap.objs.size:=by rw [sz3]; exact Nat.le_succ _
  refine hRR _ _ s' H' I7 q ?_ I6.free (Nat.ne_of_gt (zag I2.lt le2)) (zau I2.sz le2) (fun x c e z=>?_) fun p hp z=>?_
  ·obtain ⟨m,hn,_⟩:=I6.loc;exact ⟨m,hn⟩
  ·obtain ⟨v,hv⟩:=I2.cell x c e;exact absurd (zag hv.lt (by rw [z]; exact le2)) (zaI _)
  ·exact absurd (zag (zal (I2.pin p hp).1) (by rw [z]; exact le2)) (zaI _)
 rw [<- e3,<- hh₁];have loop:∀ tk,codeAny (model X.prog X.w) X.A (.compLoop (.ListComp elt [⟨tg,iter,ifs,0⟩] scope pos) 0 (.ref it) (.ref s2.heap.objs.size) (compEnvC scope (cellsFrom (s3.heap.objs.size+1) scope.names (cT X.env scope.names)) s3.heap.objs.size X.env))
   (RR (.ref s2.heap.objs.size) s3.heap.objs.size) { s3 with heap:=h₁,toks:=tk }:=fun tk=>by
  refine codeAny_loop rfl (fun n s'=>∃ i τ H',Inv (aS X scope ns s3.heap.objs.size (cellsFrom (s3.heap.objs.size+1) scope.names (cT X.env scope.names)) s3 (upd H2 s2.heap.objs.size (.lst [])) fp) [] τ H' s'/\tn i s'.heap/\(∀ b∈fp,H' b=none)/\W i n τ H') (fun n s5 hI=>?_) m0
   ⟨0,_,_,J0 tk,T.keep _ _ _ st2 fun b _ o e=>old b o (k3 b o e),fun b hb=>(f3 b hb).1,w0⟩
  obtain ⟨i,τ,H5,I5,st5,fr5,w5⟩:=hI;show wpAny _ X.A ((compTurn (.ListComp elt [⟨tg,iter,ifs,0⟩] scope pos) 0 (.ref it) (.ref s2.heap.objs.size) (compEnvC scope (cellsFrom (s3.heap.objs.size+1) scope.names (cT X.env scope.names)) s3.heap.objs.size X.env)).onRaise (fun x=>do noteFrame x (compEnvC scope (cellsFrom (s3.heap.objs.size+1) scope.names (cT X.env scope.names)) s3.heap.objs.size X.env); theTreesLotGoes x)) _ _ s5;refine wpAny_noted ?_;rw [compTurn_list];refine zam (wpAny_standAt (zam ?_));rcases turn i n τ H5 w5 with ⟨stop,qn⟩ | ⟨go,N,hN,step⟩
  ·refine thn (T.done (aS X scope ns s3.heap.objs.size (cellsFrom (s3.heap.objs.size+1) scope.names (cT X.env scope.names)) s3 (upd H2 s2.heap.objs.size (.lst [])) fp) rfl rfl rfl hc i [] s5 τ H5 _ I5 (stat fr5) st5 stop) fun r s6 ⟨hr,I6⟩=>?_;subst hr;exact zaT (fin I6 qn)
  ·refine thn (T.item (aS X scope ns s3.heap.objs.size (cellsFrom (s3.heap.objs.size+1) scope.names (cT X.env scope.names)) s3 (upd H2 s2.heap.objs.size (.lst [])) fp) rfl rfl rfl hc i [] s5 τ H5 _ I5 (stat fr5) st5 go) fun r s6 ⟨u,hr,h6⟩=>?_;subst hr
   dsimp only
   refine zam (thn h6 fun _ s7 ⟨x,H7,I7,r7,y7,st7,fr7⟩=>?_);have I7':=I7.pinned (stat fr7) (T.obj _ _ st7);have back:∀ {τ9:St} {H9:Hp} {s9:Shared},Inv (aS X scope ns s3.heap.objs.size (cellsFrom (s3.heap.objs.size+1) scope.names (cT X.env scope.names)) s3 (upd H2 s2.heap.objs.size (.lst [])) fp) ([]++jg fp s7.heap) τ9 H9 s9 ->
     Inv (aS X scope ns s3.heap.objs.size (cellsFrom (s3.heap.objs.size+1) scope.names (cT X.env scope.names)) s3 (upd H2 s2.heap.objs.size (.lst [])) fp) [] τ9 H9 s9/\tn (i+1) s9.heap/\∀ b∈fp,H9 b=none:=fun {τ9 H9 s9} I9=>by
    refine ⟨I9.unpinned,T.keep _ _ _ st7 fun b hb o e=>(I9.pin (b,o) (List.mem_append_right _ (List.mem_append_right _ (fU hb e)))).1,fun b hb=>?_⟩;obtain ⟨o,e,d⟩:=T.obj _ _ st7 b hb;exact (I9.pin (b,o) (List.mem_append_right _ (List.mem_append_right _ (fU hb e)))).2.1
   refine zam (thF (hg _ _ _ _ _ _ s7 τ H7 x u _ I7' r7 (step x H7 y7)) fun _ s8 ⟨τ8,H8,I8,q8⟩=>?_);refine zam (thF (ht _ _ _ _ _ _ s8 τ8 H8 _ I8 q8) fun b s9 ⟨H9,I9,q9⟩=>?_);cases b with
   | false =>
    rw [if_neg Bool.false_ne_true] at q9;obtain ⟨m',hm,w9⟩:=hN _ _ q9;obtain ⟨a1,a2,a3⟩:=back I9;exact zaT ⟨rfl,m',hm,i+1,τ8,H9,a1,a2,a3,w9⟩
   | true =>
    rw [if_pos rfl] at q9;refine zam (zam (thF (he _ _ _ _ _ _ s9 τ8 H9 _ I9 q9) fun v s10 ⟨y,H10,I10,r10,q10⟩=>?_));obtain ⟨xs,hx,hz,n10⟩:=q10;obtain ⟨m',hm,w10⟩:=hN _ _ n10;refine zam (thF (jm _ s10 τ8 H10 (.ref s2.heap.objs.size) [y] (.ref s2.heap.objs.size) [v] (fun _ H11=>W (i+1) m' τ8 H11) I10 rfl (.cons r10 .nil) ⟨_,xs,y,rfl,rfl,hx,hz,w10⟩) fun _ s11 ⟨_,H11,I11,_,q11⟩=>?_);obtain ⟨a1,a2,a3⟩:=back I11;exact zaT (zaT ⟨rfl,m',hm,i+1,τ8,H11,a1,a2,a3,q11⟩)
 have hst1:tn 0 h₁:=T.keep _ _ _ st2 fun b _ o e=>old b o (k3 b o e);subst hs3;exact codeAny_compStart_list (loop _) (T.self _ 0 _ _ _ hst1 (loop _))
def EJ (B:BlkOkC X scope ns js) (hc:X.calm=true) (hi:PI X tg iter wi)
  (hg:∀ C cl s₀ H₀ fp,PG (aS X scope ns C cl s₀ H₀ fp) tg g) (ht:∀ C cl s₀ H₀ fp,PTs (aS X scope ns C cl s₀ H₀ fp) ifs tt) (he:∀ C cl s₀ H₀ fp,PE (aS X scope ns C cl s₀ H₀ fp) elt te)
  (hs:∀ x,foldedSetIterable iter X.env x=pure x:=by intro _; rfl):PE X (.ListComp elt [⟨tg,iter,ifs,0⟩] scope pos) (tLC wi g tt te js):=by
 intro pins s σ H Q I h;rw [eval_ListComp];have hclos:=k5 (scope:=scope) (env:=X.env) (fun y hy hk=>I.ok.has y.1 (B.free y hy hk));refine wpAny_comprehension_free (use:=none) rfl hs hclos B.kind B.names (thn (hi pins s σ H _ I h) fun v s1 h1=>thn h1 fun itv s2 h2=>?_);obtain ⟨it,fp,tn,J,H2,e,I2,T,st2,f2,hw⟩:=h2;subst e;refine nI (RR:=fun acc C=>compPost (model X.prog X.w) X.A X.xe none (EP X pins σ Q) acc C) B hc I2 T st2 f2 hg ht he hw ?_;intro D C s' H' I' q hm c0 c1 c2 c3 c4;obtain ⟨m,hn⟩:=hm;exact ⟨m,hn,fun h' hs'=>⟨.ref D,H',I'.turned (t':=s'.toks) (fun b o hb e=>(hs'.2 b hb).trans e) c0 c1 (.inr c2) c3 c4,rfl,q⟩⟩
def rP {i:Nat} {x:Str} {spos pos':Pos} (hN:X.N.Nodup) (hi':X.N[i]?=some x) (hx:X.env.scope.names.lookup x=some .local) (B:BlkOkC X scope ns js) (hc:X.calm=true) (hi:PI X tg iter wi)
  (hg:∀ C cl s₀ H₀ fp,PG (aS X scope ns C cl s₀ H₀ fp) tg g) (ht:∀ C cl s₀ H₀ fp,PTs (aS X scope ns C cl s₀ H₀ fp) ifs tt) (he:∀ C cl s₀ H₀ fp,PE (aS X scope ns C cl s₀ H₀ fp) elt te)
  (hsw:swapsWith (.ListComp elt [⟨tg,iter,ifs,0⟩] scope pos) (some (.Name x pos')) spos.line X.env=pure true:=by rfl)
  (hs:∀ x,foldedSetIterable iter X.env x=pure x:=by intro _; rfl):PS X (.Assign [.Name x pos'] (.ListComp elt [⟨tg,iter,ifs,0⟩] scope pos) spos) (lB (tLC wi g tt te js) (kR i)):=by
 intro pins s σ H D I h;rw [exec_Assign_Name_used _ _ _ _ hsw];have hclos:=k5 (scope:=scope) (env:=X.env) (fun y hy hk=>I.ok.has y.1 (B.free y hy hk));refine zam (wpAny_standAt (zam ?_));show wpAny _ X.A (do let _ <- comprehension (.ListComp elt [⟨tg,iter,ifs,0⟩] scope pos) scope X.env _ (newList []) false (eval iter X.env) (some (assign (.Name x pos') X.env))) _ _ s;refine zam (wpAny_mono (wpAny_comprehension_free (use:=some (assign (.Name x pos') X.env)) (Q:=fun _ s'=>SP X pins D .next s') rfl hs hclos B.kind B.names
  (thn (hi pins s σ H _ I h) fun v s1 h1=>thn h1 fun itv s2 h2=>?_)) (fun _ s' hq=>zaT (zaT hq)) fun _ _ e=>e)
 obtain ⟨it,fp,tn,J,H2,e,I2,T,st2,f2,hw⟩:=h2;subst e;refine nI (RR:=fun acc C=>compPost (model X.prog X.w) X.A X.xe (some (assign (.Name x pos') X.env)) (fun _ s'=>SP X pins D .next s') acc C) B hc I2 T st2 f2 hg ht he hw ?_;intro D' C s' H' I' q hm c0 c1 c2 c3 c4;obtain ⟨m,hn⟩:=hm;show wpAny _ X.A (assign (.Name x pos') X.env (.ref D')) _ _ _;refine wpAny_assign_Name (mt (v:=.ref D') I' hN hi' (.inl hx) rfl (fun s4 I4 ⟨a,hsb,ha⟩=>?_) (.inr hx));have ne:C≠a:=by
  rcases ha with z | z
  ·rw [z]; exact c1
  ·exact (c3 x a z).symm
 exact ⟨m,hn.sameBut hsb ne,fun h' hs'=>⟨_,H',I4.turned (t':=s4.toks) (fun b o hb e=>(hs'.2 b hb).trans e) c0 c1 (.inr c2) c3 c4,q⟩⟩
end
section
variable {X:Cx} {K:PySem.W.Frag}
end
mutual
def DV (H:Hp):V->PyData->Prop
 | v,.none=>v=.non
 | v,.bool b=>v=.bl b
 | v,.int i=>v=.int i
 | v,.str x=>v=.str x
 | v,.list ds=>∃ a xs,v=.ref a/\H a=some (.lst xs)/\DVs H xs ds
 | v,.tuple ds=>∃ a xs,v=.ref a/\H a=some (.tup xs)/\DVs H xs ds
 | _,.dict _=>False
def DVs (H:Hp):List V->List PyData->Prop
 | vs,[]=>vs=[]
 | vs,d :: ds=>∃ v r,vs=v :: r/\DV H v d/\DVs H r ds
end
mutual
theorem DV.same {H H':Hp} (s:Gq H H'):∀ {v:V} (d:PyData),DV H v d->DV H' v d
 | _,.none,h=>by simpa [DV] using h
 | _,.bool _,h=>by simpa [DV] using h
 | _,.int _,h=>by simpa [DV] using h
 | _,.str _,h=>by simpa [DV] using h
 | _,.list ds,h=>by
  unfold DV at h ⊢;obtain ⟨a,xs,e,h1,h2⟩:=h;exact ⟨a,xs,e,s _ _ h1,DVs.same s ds h2⟩
 | _,.tuple ds,h=>by
  unfold DV at h ⊢;obtain ⟨a,xs,e,h1,h2⟩:=h;exact ⟨a,xs,e,s _ _ h1,DVs.same s ds h2⟩
 | _,.dict _,h=>by
  unfold DV at h;exact h.elim
theorem DVs.same {H H':Hp} (s:Gq H H'):∀ {vs:List V} (ds:List PyData),DVs H vs ds->DVs H' vs ds
 | _,[],h=>by
  unfold DVs at h ⊢;exact h
 | _,d :: ds,h=>by
  unfold DVs at h ⊢;obtain ⟨v,r,e,h1,h2⟩:=h;exact ⟨v,r,e,DV.same s d h1,DVs.same s ds h2⟩
end
section
variable {X:Cx} {pins:List (Addr × Obj)} {σ:St} {H:Hp} {s:Shared}
mutual
theorem DV.reads (I:Inv X pins σ H s):∀ {v:V} {u:Value} (d:PyData),DV H v d->RelV v u->∃ as,Reads s.heap u d as
 | _,_,.none,h,r=>by
  unfold DV at h;subst h;cases r;exact ⟨_,.none⟩
 | _,_,.bool b,h,r=>by
  unfold DV at h;subst h;cases r;exact ⟨_,.bool _⟩
 | _,_,.int i,h,r=>by
  unfold DV at h;subst h;obtain ⟨t,rfl⟩:=r;exact ⟨_,.int _ _⟩
 | _,_,.str x,h,r=>by
  unfold DV at h;subst h;obtain ⟨t,rfl⟩:=r;exact ⟨_,.str _ _⟩
 | _,_,.list ds,h,r=>by
  unfold DV at h;obtain ⟨a,xs,rfl,h1,h2⟩:=h;cases r;obtain ⟨its,rv,⟨o,n,e1,e2,_,e3⟩,_⟩:=I.list (SqL.of h1);obtain ⟨as,ra⟩:=DVs.reads I ds h2 rv;exact ⟨_,.list e1 e2 e3 (by simpa using ra)⟩
 | _,_,.tuple ds,h,r=>by
  unfold DV at h;obtain ⟨a,xs,rfl,h1,h2⟩:=h;cases r;obtain ⟨its,rv,⟨o,e1,e2,n,e3⟩,_⟩:=I.tuple (SqT.of h1);obtain ⟨as,ra⟩:=DVs.reads I ds h2 rv;exact ⟨_,.tuple e1 e2 e3 (by simpa using ra)⟩
 | _,_,.dict _,h,_=>by
  unfold DV at h;exact h.elim
theorem DVs.reads (I:Inv X pins σ H s):∀ {vs:List V} {us:List Value} (ds:List PyData),DVs H vs ds->Vals vs us->∃ as,ReadsAll s.heap us ds as
 | _,_,[],h,r=>by
  unfold DVs at h;subst h;cases r;exact ⟨_,.nil⟩
 | _,_,d :: ds,h,r=>by
  unfold DVs at h;obtain ⟨v,t,rfl,h1,h2⟩:=h;cases r with
  | cons ru rr =>
   obtain ⟨as,a1⟩:=DV.reads I d h1 ru;obtain ⟨bs,a2⟩:=DVs.reads I ds h2 rr;exact ⟨_,.cons a1 a2⟩
end
end
mutual
theorem mF {H:Hp}:∀ {v:V} (d:PyData),DV H v d->d.hasDict=false
 | _,.none,_=>by simp only [PyData.hasDict]
 | _,.bool _,_=>by simp only [PyData.hasDict]
 | _,.int _,_=>by simp only [PyData.hasDict]
 | _,.str _,_=>by simp only [PyData.hasDict]
 | _,.list ds,h=>by
  unfold DV at h;obtain ⟨a,xs,e,h1,h2⟩:=h;simp only [PyData.hasDict];exact iO ds h2
 | _,.tuple ds,h=>by
  unfold DV at h;obtain ⟨a,xs,e,h1,h2⟩:=h;simp only [PyData.hasDict];exact iO ds h2
 | _,.dict _,h=>by
  unfold DV at h;exact h.elim
theorem iO {H:Hp}:∀ {vs:List V} (ds:List PyData),DVs H vs ds->PyData.hasDictAll ds=false
 | _,[],_=>by simp only [PyData.hasDictAll]
 | _,d :: ds,h=>by
  unfold DVs at h;obtain ⟨v,r,e,h1,h2⟩:=h;simp only [PyData.hasDictAll,mF d h1,iO ds h2,Bool.or_self]
end
section
variable {X:Cx}
def Gy:List V->Hp->VK->Prop:=fun xs H Q=>∃ x d,xs=[x]/\DV H x d/\d.showable=true/\d.depth<=60/\d.shown.length<=sizeLine/\Q (.str d.shown) H
def tD (hg:X.A.guards=some []) (hu:X.A.units+64 < cLine):CallR X (.builtin "repr") Gy:=by
 intro pins s σ H xs us Q I r h;obtain ⟨x,d,rfl,hd,hsh,hdp,hsz,q⟩:=h;obtain ⟨u,rfl,ru⟩:=cF r;have nd:=mF d hd;obtain ⟨as,rd⟩:=DV.reads I d hd ru;cases d with
 | none =>
  unfold DV at hd;subst hd;cases ru;have e:(PyData.none).shown=("None" : Str):=PyData.shown_none;rw [e] at q;exact P.repr_of_none ⟨.str _,H,I.tok _,⟨_,rfl⟩,q⟩
 | bool b =>
  unfold DV at hd;subst hd;cases ru;have e:(PyData.bool b).shown=(if b then "True" else "False" : Str):=PyData.shown_bool b;rw [e] at q;exact P.repr_of_bool ⟨.str (if b then "True" else "False"),H,I.tok _,⟨_,rfl⟩,q⟩
 | int i =>
  unfold DV at hd;subst hd;obtain ⟨t,rfl⟩:=ru;have e:(PyData.int i).shown=((toString i:String):Str):=PyData.shown_int i;rw [e] at q;have hl:i.natAbs.log2 < 1920:=by simpa [PyData.showable] using hsh
  exact P.repr_of_int hl ⟨.str _,H,I.tok _,⟨_,rfl⟩,q⟩
 | str y =>
  unfold DV at hd;subst hd;obtain ⟨t,rfl⟩:=ru;have e:(PyData.str y).shown=reprText y:=PyData.shown_str y;rw [e] at q hsz;exact P.repr_of_str ⟨.str _,H,I.tok _,⟨_,rfl⟩,q⟩ hsz
 | list ds =>
  have hd':=hd;unfold DV at hd';obtain ⟨a,ys,rfl,_,_⟩:=hd';cases ru;exact repr_of_reads' rd hsh (PyData.noDict_hsm nd) hg (by omega) (fun _ _ e=>e) (fun h' u tk hk=>⟨.str _,H,I.kept (t':=tk) hk,⟨_,rfl⟩,q⟩) hsz
 | tuple ds =>
  have hd':=hd;unfold DV at hd';obtain ⟨a,ys,rfl,_,_⟩:=hd';cases ru;exact repr_of_reads' rd hsh (PyData.noDict_hsm nd) hg (by omega) (fun _ _ e=>e) (fun h' u tk hk=>⟨.str _,H,I.kept (t':=tk) hk,⟨_,rfl⟩,q⟩) hsz
 | dict _ =>
  unfold DV at hd;exact hd.elim
end
section
variable {prog:Program} {w:World} {A:Around} {E:Value->Shared->Prop} {s:Shared}
def qp {jt tu:Addr} {n:Nat} {vals:Array Value} {y:Value} {R:Value->Shared->Prop} (a1:s.heap.IsTupleIter jt tu n) (a2:s.heap.IsTuple tu vals) (a3:vals[n]?=some y)
  (q:∀ g,g.IsTupleIter jt tu (n+1)->Heap.SameBut jt s.heap g->R y { s with heap:=g }):wpAny (model prog w) A (Builtin.SmallTypes.nextOf (.ref jt)) R E s:=by
 obtain ⟨ob,b1,b2,b3⟩:=id a1;obtain ⟨ot,c1,_,m,c2⟩:=a2;unfold Builtin.SmallTypes.nextOf;refine zam (wpAny_callSpecial?_slot (name:=Str.ofString "__next__") a1.typeIs F.slot_tuple_iterator_next (wpAny_call_entry F.slot_tuple_iterator_next a1.typeIs F.entry_tuple_iterator_next ?_ (F.args_tuple_iterator_next_1 _)));show wpAny _ _ (field (.ref jt) 0 >>= _) _ _ s;refine zam (wpAny_field b1 b3 (x:=.ref tu) rfl ?_);show wpAny _ _ (if (Value.ref tu == Value.none)=true then _ else _) _ _ s;rw [if_neg (show ¬ ((Value.ref tu == Value.none)=true) from Bool.false_ne_true)];show wpAny _ _ (field (.ref jt) 1 >>= _) _ _ s;refine zam (wpAny_field b1 b3 (x:=.int n 0) rfl ?_);show wpAny _ _ (seqItems? (.ref tu) >>= _) _ _ s;refine zam (wpAny_seqItems c1 c2 ?_);simp only [zaL,a3];refine zam (wpAny_setField b1 b3 (by simp) (zaT ⟨y,rfl,zaT (q _ ?_ (Heap.SameBut.update ..))⟩));refine ⟨_,Heap.get?_update_self _ b1 (Obj.isFreed_of_fields (Obj.data_mapFields b3 _)),(Obj.cls_mapFields ..).trans b2,?_⟩;rw [Obj.data_mapFields b3];simp [rawInt]
def ms {jt tu:Addr} {n:Nat} {vals:Array Value} {R:Value->Shared->Prop} (hh:A.handled=none) (a1:s.heap.IsTupleIter jt tu n) (a2:s.heap.IsTuple tu vals) (a3:vals[n]?=none)
  (q:∀ g e,Heap.ExtBut jt s.heap g->(∃ o,g.get? e=some o/\o.cls=.type "StopIteration")->E (.ref e) { s with heap:=g }):wpAny (model prog w) A (Builtin.SmallTypes.nextOf (.ref jt)) R E s:=by
 obtain ⟨ob,b1,b2,b3⟩:=id a1;obtain ⟨ot,c1,_,m,c2⟩:=a2;unfold Builtin.SmallTypes.nextOf;refine zam (wpAny_callSpecial?_slot (name:=Str.ofString "__next__") a1.typeIs F.slot_tuple_iterator_next (wpAny_call_entry F.slot_tuple_iterator_next a1.typeIs F.entry_tuple_iterator_next ?_ (F.args_tuple_iterator_next_1 _)));show wpAny _ _ (field (.ref jt) 0 >>= _) _ _ s;refine zam (wpAny_field b1 b3 (x:=.ref tu) rfl ?_);show wpAny _ _ (if (Value.ref tu == Value.none)=true then _ else _) _ _ s;rw [if_neg (show ¬ ((Value.ref tu == Value.none)=true) from Bool.false_ne_true)];show wpAny _ _ (field (.ref jt) 1 >>= _) _ _ s;refine zam (wpAny_field b1 b3 (x:=.int n 0) rfl ?_);show wpAny _ _ (seqItems? (.ref tu) >>= _) _ _ s;refine zam (wpAny_seqItems c1 c2 ?_);simp only [zaL,a3];refine zam (wpAny_rule (zam (wpAny_setField b1 b3 (by simp) ?_)));show wpAny _ _ (newExc (.type "StopIteration") [] >>= _) _ _ _;refine zam ?_;simp only [newExc,newTuple];refine zam (wpAny_newObj_type ?_ (by show (0:Nat)<=_; exact Nat.zero_le _));refine zam (m:=firstArgMember _ _) (wpAny_of_eq (a:=Value.none) (by first | rfl | (simp only [firstArgMember]; rfl)) ?_);refine wpAny_newObj_type ?_;simp only [raiseNew];refine zam (wpAny_handled ?_)
 first | rw [show A.in1.handled=none from hh] | rw [hh]
 refine zam (zaT (wpAny_throw ?_));exact q _ _ (((Heap.SameBut.update ..).extBut.push _).push _) ⟨_,zan _ rfl,rfl⟩
def eA (hh:A.handled=none) (jt tu:Addr) (hne:tu≠jt) (vals:Array Value):Draws prog w A jt [jt,tu] vals.size (fun i v=>vals[i]?=some v) (fun i h=>h.IsTupleIter jt tu i/\h.IsTuple tu vals) where
 live:=fun _ _ st=>let ⟨o,ho,_⟩:=st.1; ⟨o,ho⟩
 frame:=fun _ _ _ st hk=>⟨st.1.at fun o e=>hk jt (by simp) o e,let ⟨o,ho,r⟩:=st.2; ⟨o,hk tu (by simp) o ho,r⟩⟩
 item:=fun i s Q E hi st hQ=>by
  refine qp st.1 st.2 (y:=vals[i]) (by simp [hi]) fun g st' sb=>?_;exact hQ _ g s.toks (by simp [hi]) ⟨st',let ⟨o,ho,r⟩:=st.2; ⟨o,sb.extBut _ _ hne ho,r⟩⟩ sb
 done:=fun s Q E st hE=>ms hh st.1 st.2 (by simp) hE
end
def lQ (tu:Addr) (vals:Array Value) (n:Nat) (dct:Option Addr) (sl:Array (Option Value)) :
  Meets (Builtin.«enumerate.__new__» ⟨[.type "enumerate",.ref tu],[]⟩) (fun _ R s=>s.heap.get? tu=some { cls:=.type "tuple",dict:=dct,data:=.seq vals n,slots:=sl } /\
   R (.ok (.ret (.ref (s.heap.push { cls:=.type "tuple_iterator",data:=.fields #[.ref tu,.int 0 0] }).objs.size)))
    { s with heap:=(s.heap.push { cls:=.type "tuple_iterator",data:=.fields #[.ref tu,.int 0 0] }).push { cls:=.type "enumerate",data:=.fields #[.none,.bool false,.ref s.heap.objs.size,rawInt 0,.none,.none] } }) :=
 .of_wp fun prog w A R s h=>by
  obtain ⟨hp,g,d,tk,os⟩:=s;obtain ⟨ht,h⟩:=h;have hsub:=sub_enumerate;have hT:Heap.IsTuple (Shared.heap ⟨hp,g,d,tk,os⟩) tu vals:=⟨_,ht,rfl,n,rfl⟩
  wp_walk using AutoSeq1.wpAny_loadPart' ht
  refine wpAny_stack_any fun st=>zaT ?_;split
  ·rename_i c _ _ _ _ _;cases (c == Value.type "enumerate")
   ·wp_walk using AutoSeq1.wpAny_loadPart' ht,wpAny_pyIter_tuple hT
    exact ⟨_,rfl,h⟩
   ·wp_walk using AutoSeq1.wpAny_loadPart' ht,wpAny_pyIter_tuple hT
    exact ⟨_,rfl,h⟩
  ·wp_walk using AutoSeq1.wpAny_loadPart' ht,wpAny_pyIter_tuple hT
   exact ⟨_,rfl,h⟩
section
variable {prog:Program} {w:World} {A:Around} {E:Value->Shared->Prop} {s:Shared}
def mR {tu:Addr} {vals:Array Value} {Q:Value->Shared->Prop} (hT:s.heap.IsTuple tu vals)
  (h:∀ g,IsEnum g (s.heap.objs.size+1) s.heap.objs.size 0 .none->g.IsTupleIter s.heap.objs.size tu 0->g.objs.size=s.heap.objs.size+2 ->
   (∀ b o,s.heap.get? b=some o->g.get? b=some o)->Q (.ref (s.heap.objs.size+1)) { s with heap:=g }) :
  wpAny (model prog w) A (call (.type "enumerate") [.ref tu]) Q E s:=by
 obtain ⟨⟨c,dct,dt,sl⟩,hl,hc,n,hd⟩:=hT;have hc':c=.type "tuple":=hc;have hd':dt=.seq vals n:=hd;subst hc' hd';refine callType_new F.called_enumerate (by decide) (F.typeCall_enumerate_1 _) (F.newCall_enumerate_1 _) (fun ob=>F.args_object_init_2 ob _) F.entry_enumerate_new (lQ tu vals n dct sl) ⟨hl,?_⟩;have sz1:(s.heap.push { cls:=.type "tuple_iterator",data:=.fields #[.ref tu,.int 0 0] }).objs.size=s.heap.objs.size+1:=Heap.size_push ..;show _/\_;rw [sz1];have g2:=zan (s.heap.push { cls:=.type "tuple_iterator",data:=.fields #[.ref tu,.int 0 0] }) (o:={ cls:=.type "enumerate",data:=.fields #[.none,.bool false,.ref s.heap.objs.size,rawInt 0,.none,.none] }) rfl;rw [sz1] at g2;refine ⟨⟨_,g2,rfl⟩,h _ g2 ⟨_,zaf _ (zan _ rfl),rfl,rfl⟩ (by rw [Heap.size_push,sz1]) fun b o x=>zaf _ (zaf _ x)⟩
def s0 {e it tu:Addr} {i:Int} {n:Nat} {vals:Array Value} {old:Value} {Q:Option Value->Shared->Prop} (hh:A.handled=none) (he:IsEnum s.heap e it i old) (a1:s.heap.IsTupleIter it tu n) (a2:s.heap.IsTuple tu vals) (a3:vals[n]?=none)
  (q:∀ g,Heap.ExtBut it s.heap g->Q none { s with heap:=g }):wpAny (model prog w) A (pyNext (.ref e)) Q E s:=by
 have ty:s.TypeIs (.ref e) "enumerate":=⟨_,he,rfl⟩;unfold pyNext;refine zam (wpAny_attempt (wpAny_callSpecial?_slot (name:=Str.ofString "__next__") ty F.slot_enumerate_next (wpAny_call_entry F.slot_enumerate_next ty F.entry_enumerate_next ?_ (F.args_enumerate_next_1 _))));show wpAny _ _ (field (.ref e) 2 >>= _) _ _ _;refine zam (wpAny_field he rfl (x:=.ref it) rfl ?_);refine zam (ms hh a1 a2 a3 fun g x k hx=>?_);obtain ⟨o,ho,hc⟩:=hx;exact zam (wpAny_isInstance (T:="StopIteration") (b:=true) ⟨o,ho,hc⟩ isSubtype_stop (zaT (q _ k)))
end
def ItT (K:PySem.W.Frag) (a:Addr):It :=
 ⟨fun i H=>∃ xs x,SqT K H a xs/\xs[i]?=some x,
  fun i H y H'=>∃ p x,y=.ref p/\H p=none/\H'=upd H p (.tup [.int i,x])/\∀ xs,SqT K H a xs->xs[i]?=some x,
  fun i H=>∃ xs,SqT K H a xs/\xs.length<=i⟩
def qo {P:Program} {w:World} {K:PySem.W.Frag} {elts:List Expr} {k:Nat} {tp:Pos} (a e it:Addr) (hei:e≠it) (hai:a≠it) :
  Turn P w K (.Tuple elts k tp) (ItT K a) [e,it] e (fun i h=>(∃ old,IsEnum h e it i old)/\h.IsTupleIter it a i) where
 mem:=by simp
 obj:=fun i h st b hb=>by
  obtain ⟨⟨old,he⟩,o,ho,hc,hd⟩:=st;have hb':b=e\/b=it:=by simpa using hb
  rcases hb' with rfl | rfl
  ·exact ⟨_,he,fun v z=>by
    have z':Data.fields _=Data.cell v:=z;cases z'⟩
  ·exact ⟨o,ho,fun v z=>by rw [hd] at z; cases z⟩
 keep:=fun i h h' st kp=>⟨let ⟨old,he⟩:=st.1; ⟨old,kp e (by simp) _ he⟩,st.2.at fun o q=>kp it (by simp) o q⟩
 item:=by
  intro X hP hw hK hc i pins s σ H E I hf st hg;subst hP hw hK;obtain ⟨xs,x,hq,hx⟩:=hg;obtain ⟨its,rv,pt,hz⟩:=I.tuple hq;obtain ⟨u,hu,ru⟩:=rv.get hx;obtain ⟨⟨old,he⟩,hit⟩:=st;have hT:s.heap.IsTuple a its.toArray:=pt;have hea:e≠a:=fun z=>by
   subst z;obtain ⟨o,e1,e2,_⟩:=id hT;have he':s.heap.get? e=some _:=he;rw [e1] at he';cases he';simp at e2
  have hu':its.toArray[i]?=some u:=by simpa using hu
  have hlt:i < its.toArray.size:=(Array.getElem?_eq_some_iff.mp hu').1;refine wpAny_pyNext_enum_itemD (eA (A:=X.A.in1) (show X.A.in1.handled=none from I.ok.hd hc) it a hai its.toArray) he ⟨hit,hT⟩ hlt hei (by simp [hei,hea]) fun y h1 tk hy ho1 st1 ht1 hz1 hk1=>?_;rw [hu'] at hy;cases hy;refine ⟨_,rfl,wpAny_letOwnedTupleGo_enum ho1 fun h2 he2 hs2=>?_⟩;have eL:e < s.heap.objs.size:=zal he;have ht2:h2.get? s.heap.objs.size=some { cls:=.type "tuple",data:=.seq #[.int i tk,u] }:=(hs2.2 _ (Nat.ne_of_gt eL)).trans ht1;have hit2:h2.IsTupleIter it a (i+1):=st1.1.at fun o q=>hs2.extBut _ _ hei.symm q;have I2:Inv X pins σ (upd H s.heap.objs.size (.tup [.int i,x])) { s with heap:=h2,toks:=tk+1 }:=by
   refine I.turnedLaid (fp:=[e,it]) hf (zav _) (fun b ob hb q=>?_) (fun b hb=>?_) ?_
   ·have h1:b≠e:=fun z=>hb (by simp [z]);have h2':b≠it:=fun z=>hb (by simp [z]);exact (hs2.2 b h1).trans (hk1 b ob h1 h2' q)
   ·have hb':b=e\/b=it:=by simpa using hb
    rcases hb' with rfl | rfl
    ·exact ⟨_,he2⟩
    ·obtain ⟨o,ho,_⟩:=hit2;exact ⟨o,ho⟩
   ·refine ⟨(by show 2<=sizeLine; decide),[.int i tk,u],.cons ⟨_,rfl⟩ (.cons ru .nil),?_⟩;exact ⟨_,ht2,rfl,_,rfl,rfl⟩
  have fr:∀ b∈[e,it],upd H s.heap.objs.size (.tup [.int i,x]) b=none:=fun b hb=>by
   have hlt:b < s.heap.objs.size:=by
    have hb':b=e\/b=it:=by simpa using hb
    rcases hb' with rfl | rfl
    ·exact eL
    ·obtain ⟨o,ho,_⟩:=hit;exact zal ho
   rw [ay (zaw hlt)];exact (hf b hb).1
  exact ⟨.ref s.heap.objs.size,_,I2,rfl,⟨_,x,rfl,I.fresh,rfl,fun ys hy=>by rw [I.tuple_inj hy hq]; exact hx⟩,⟨⟨_,he2⟩,hit2⟩,fr⟩
 done:=by
  intro X hP hw hK hc i pins s σ H E I hf st hg;subst hP hw hK;obtain ⟨xs,hq,hx⟩:=hg;obtain ⟨its,rv,pt,hz⟩:=I.tuple hq;obtain ⟨⟨old,he⟩,hit⟩:=st;obtain ⟨f0,f1,f2,f3,f4,f5⟩:=hf it (by simp);have hl:=rv.length;have hT:s.heap.IsTuple a its.toArray:=pt;exact s0 (I.ok.hd hc) he hit hT (by simp; omega) fun h' eb=>⟨rfl,I.turned (t':=s.toks) (fun b o hb q=>eb b o hb q) f0 f1 f3 f4 f5⟩
 self:=fun _ _ _ _ _ st h=>let ⟨⟨_,he⟩,_⟩:=st; wpAny_pyIter_enum he h
section
variable {X:Cx} {K:PySem.W.Frag}
end
section
open PySem.SeqAt
end
def Rp (H:Hp) (v:V) (txt:Str):Prop:=(∃ d,DV H v d/\d.showable=true/\d.depth<=60/\d.shown.length<=sizeLine/\txt=d.shown)\/∃ a,v=.ref a/\Rd H a (.dK [])/\txt=("{}" : Str)
section
variable {X:Cx}
def Es:List V->Hp->VK->Prop:=fun xs H Q=>∃ x txt,xs=[x]/\Rp H x txt/\Q (.str txt) H
def qW (hg:X.A.guards=some []) (hu:X.A.units+64 < cLine):CallR X (.builtin "repr") Es:=by
 intro pins s σ H xs us Q I r h;obtain ⟨x,txt,rfl,hd,q⟩:=h;rcases hd with ⟨d,h1,h2,h3,h4,rfl⟩ | ⟨a,rfl,ha,rfl⟩
 ·exact tD hg hu pins s σ H _ us Q I r ⟨x,d,rfl,h1,h2,h3,h4,q⟩
 ·obtain ⟨u,rfl,ru⟩:=cF r;cases ru;obtain ⟨_,hsys,vs,kv,dd⟩:=iP I.hok ha;have hv:vs=[]:=by
   have e:=KV.length kv;exact za7.mp e.symm
  subst hv;have rd:Reads s.heap (.ref a) (.dict []) (a :: []++[]):=by
   obtain ⟨o,es,n,g1,g2,g3,_,g5,_⟩:=dd;have h0:es.toList=[]:=by
    generalize es.toList=L at g5;cases g5;rfl
   refine .dict g1 g2.1 g3 ?_ ?_
   ·rw [h0];exact .nil
   ·rw [h0];exact .nil
  have e:(PyData.dict []).shown=("{}" : Str):=by decide +kernel
  refine repr_of_reads' rd (by decide +kernel) (fun _ hm=>?_) hg (by show X.A.units+(1+1) < cLine; omega) (fun _ _ e=>e) (fun h' u tk hk=>⟨.str _,H,I.kept (t':=tk) hk,⟨_,rfl⟩,?_⟩) (by rw [e]; decide)
  ·have hm':sysModules=a:=by simpa using hm
   rw [<- hm'] at hsys;simp at hsys
  ·rw [e];exact q
end
abbrev D:=PyData
abbrev En:=List (Option D)
abbrev AS:=Addr->Prop
def dn:Nat->Nat
 | 0=>0
 | 1=>0
 | 2=>1
 | n+3=>n+3
def l7:∀ {a b:Nat},a<=b->dn a<=dn b
 | 0,_,_=>Nat.zero_le _
 | 1,_,_=>Nat.zero_le _
 | 2,2,_=>zav _
 | 2,b+3,_=>by show 1<=b+3; omega
 | a+3,b+3,h=>h
 | a+3,0,h=>by omega
 | a+3,1,h=>by omega
 | a+3,2,h=>by omega
 | 2,0,h=>by omega
 | 2,1,h=>by omega
def kD:Key->D
 | .inl i=>.int i
 | .inr x=>.str x
def FzL (K:PySem.W.Frag) (O:AS) (H:Hp) (a:Addr) (vs:List V):Prop:=(Rd H a (.lst vs)/\¬ O a)\/∀ H',SqL K H' a vs
def FzT (K:PySem.W.Frag) (O:AS) (H:Hp) (a:Addr) (vs:List V):Prop:=H a=some (.tup vs)/\¬ O a
def FzL.sq {K:PySem.W.Frag} {O:AS} {H:Hp} {a:Addr} {vs:List V} (h:FzL K O H a vs):SqL K H a vs:=h.elim (fun h=>.inl h.1) fun h=>h H
def FzT.sq {K:PySem.W.Frag} {O:AS} {H:Hp} {a:Addr} {vs:List V} (h:FzT K O H a vs):SqT K H a vs:=SqT.of h.1
def F8 (a C:Addr):Heap->Prop:=fun h=>∃ o,h.get? a=some o/\o.cls=.ref C/\∀ c,o.data≠.cls c
def TupD (K:PySem.W.Frag) (H:Hp) (O:AS) (ks:List (D × D)) (a:Addr):Prop:=(∃ (kk:List Key) (b:Bool),ks=[(.tuple (kk.map kD),.bool b)]/\H a=some (.dT [(kk,.bl b)])/\¬ O a) \/
 ∃ (x:Str) (C:Addr),ks=[(.none,.str x)]/\PySem.W.nsIn K mainGlobals x=some (some (.ref C))/\H a=some (.ext (F8 a C))/\¬ O a
def TupD.to {K:PySem.W.Frag} {H H':Hp} {O O':AS} {ks:List (D × D)} {a:Addr} (h:TupD K H O ks a) (k:∀ o,H a=some o->¬ O a->H' a=some o/\¬ O' a):TupD K H' O' ks a:=by
 rcases h with ⟨kk,b,h1,h2,h3⟩ | ⟨x,C,h1,h0,h2,h3⟩
 ·obtain ⟨g1,g2⟩:=k _ h2 h3;exact .inl ⟨kk,b,h1,g1,g2⟩
 ·obtain ⟨g1,g2⟩:=k _ h2 h3;exact .inr ⟨x,C,h1,h0,g1,g2⟩
mutual
def Ow (K:PySem.W.Frag) (O:AS) (H:Hp):D->Nat->V->AS->Prop
 | .none,_,v,_=>v=.non
 | .bool b,_,v,_=>v=.bl b
 | .int i,_,v,_=>v=.int i
 | .str x,_,v,_=>v=.str x
 | .tuple ts,d,v,F=>∃ a vs,v=.ref a/\((d=0/\FzT K O H a vs/\Ows K O H ts 0 vs F)\/(d≠0/\H a=some (.tup vs)/\F a/\∃ F':AS,(∀ b,F' b->F b/\b≠a)/\Ows K O H ts (dn d) vs F'))
 | .list ts,d,v,F=>∃ a vs,v=.ref a/\((d=0/\FzL K O H a vs/\Ows K O H ts 0 vs F)\/(d≠0/\H a=some (.lst vs)/\F a/\∃ F':AS,(∀ b,F' b->F b/\b≠a)/\Ows K O H ts (dn d) vs F'))
 | .dict ks,d,v,F=>∃ a vs,v=.ref a/\((d=0/\Rd H a (.dK vs)/\¬ O a/\Owd K O H ks 0 vs F)\/(d≠0/\H a=some (.dK vs)/\F a/\∃ F':AS,(∀ b,F' b->F b/\b≠a)/\Owd K O H ks (dn d) vs F')\/(d=0/\TupD K H O ks a))
def Ows (K:PySem.W.Frag) (O:AS) (H:Hp):List D->Nat->List V->AS->Prop
 | [],_,vs,_=>vs=[]
 | t :: ts,d,vs,F=>∃ v r,∃ F1 F2:AS,vs=v :: r/\(∀ b,F1 b->F b)/\(∀ b,F2 b->F b)/\(∀ b,F1 b->¬ F2 b)/\Ow K O H t d v F1/\Ows K O H ts d r F2
def Owd (K:PySem.W.Frag) (O:AS) (H:Hp):List (D × D)->Nat->List (Key × V)->AS->Prop
 | [],_,vs,_=>vs=[]
 | (k,t) :: ts,d,vs,F=>∃ q v r,∃ F1 F2:AS,vs=(q,v) :: r/\k=kD q/\(∀ b,F1 b->F b)/\(∀ b,F2 b->F b)/\(∀ b,F1 b->¬ F2 b)/\Ow K O H t d v F1/\Owd K O H ts d r F2
end
section
variable {K:PySem.W.Frag} {O O':AS} {H H':Hp}
def Rd.mv {a:Addr} {u:HO} (hk:∀ o,H a=some o->H' a=some o) (h:Rd H a u):Rd H' a u:=by
 rcases h with h | ⟨o,h⟩
 ·exact .inl (hk _ h)
 ·exact .inr ⟨o,hk _ h⟩
def Rd.there {a:Addr} {u:HO} (h:Rd H a u):H a≠none:=by
 rcases h with h | ⟨o,h⟩ <;> rw [h] <;> exact fun z=>nomatch z
structure Mv (O O':AS) (G:AS) (H H':Hp):Prop where
 k:∀ a o,H a=some o->(¬ O a\/G a)->H' a=some o
 o:∀ a,O' a->O a\/H a=none
def FzL.mv {G:AS} {a:Addr} {vs:List V} (m:Mv O O' G H H') (h:FzL K O H a vs):FzL K O' H' a vs:=by
 rcases h with ⟨h,n⟩ | h
 ·refine .inl ⟨h.mv fun o e=>m.k _ _ e (.inl n),fun z=>?_⟩;rcases m.o _ z with z | z
  ·exact n z
  ·exact h.there z
 ·exact .inr h
def FzT.mv {G:AS} {a:Addr} {vs:List V} (m:Mv O O' G H H') (h:FzT K O H a vs):FzT K O' H' a vs:=by
 obtain ⟨h,n⟩:=h;refine ⟨m.k _ _ h (.inl n),fun z=>?_⟩;rcases m.o _ z with z | z
 ·exact n z
 ·rw [h] at z; cases z
mutual
theorem Ow.mv {G:AS} (m:Mv O O' G H H'):∀ (t:D) {d:Nat} {v:V} {F:AS},(∀ b,F b->G b)->Ow K O H t d v F->Ow K O' H' t d v F
 | .none,_,_,_,_,h=>h
 | .bool _,_,_,_,_,h=>h
 | .int _,_,_,_,_,h=>h
 | .str _,_,_,_,_,h=>h
 | .tuple ts,_,_,_,g,h=>by
  obtain ⟨a,vs,e,⟨h0,h1,h2⟩ | ⟨h0,h1,h2,F',hf,h3⟩⟩:=h
  ·exact ⟨a,vs,e,.inl ⟨h0,h1.mv m,Ows.mv m ts g h2⟩⟩
  ·exact ⟨a,vs,e,.inr ⟨h0,m.k _ _ h1 (.inr (g _ h2)),h2,F',hf,Ows.mv m ts (fun b hb=>g _ (hf b hb).1) h3⟩⟩
 | .list ts,_,_,_,g,h=>by
  obtain ⟨a,vs,e,⟨h0,h1,h2⟩ | ⟨h0,h1,h2,F',hf,h3⟩⟩:=h
  ·exact ⟨a,vs,e,.inl ⟨h0,h1.mv m,Ows.mv m ts g h2⟩⟩
  ·exact ⟨a,vs,e,.inr ⟨h0,m.k _ _ h1 (.inr (g _ h2)),h2,F',hf,Ows.mv m ts (fun b hb=>g _ (hf b hb).1) h3⟩⟩
 | .dict ks,_,_,_,g,h=>by
  obtain ⟨a,vs,e,⟨h0,h1,hn,h2⟩ | ⟨h0,h1,h2,F',hf,h3⟩ | ⟨h0,ht⟩⟩:=h
  ·refine ⟨a,vs,e,.inl ⟨h0,h1.mv fun o e=>m.k _ _ e (.inl hn),fun z=>?_,Owd.mv m ks g h2⟩⟩;rcases m.o _ z with z | z
   ·exact hn z
   ·exact h1.there z
  ·exact ⟨a,vs,e,.inr (.inl ⟨h0,m.k _ _ h1 (.inr (g _ h2)),h2,F',hf,Owd.mv m ks (fun b hb=>g _ (hf b hb).1) h3⟩)⟩
  ·refine ⟨a,vs,e,.inr (.inr ⟨h0,ht.to fun o h2 hn=>⟨m.k _ _ h2 (.inl hn),fun z=>?_⟩⟩)⟩;rcases m.o _ z with z | z
   ·exact hn z
   ·rw [h2] at z; cases z
theorem Ows.mv {G:AS} (m:Mv O O' G H H'):∀ (ts:List D) {d:Nat} {vs:List V} {F:AS},(∀ b,F b->G b)->Ows K O H ts d vs F->Ows K O' H' ts d vs F
 | [],_,_,_,_,h=>h
 | t :: ts,_,_,_,g,h=>by
  obtain ⟨v,r,F1,F2,e,h1,h2,h3,h4,h5⟩:=h;exact ⟨v,r,F1,F2,e,h1,h2,h3,Ow.mv m t (fun b hb=>g _ (h1 b hb)) h4,Ows.mv m ts (fun b hb=>g _ (h2 b hb)) h5⟩
theorem Owd.mv {G:AS} (m:Mv O O' G H H'):∀ (ts:List (D × D)) {d:Nat} {vs:List (Key × V)} {F:AS},(∀ b,F b->G b)->Owd K O H ts d vs F->Owd K O' H' ts d vs F
 | [],_,_,_,_,h=>h
 | (k,t) :: ts,_,_,_,g,h=>by
  obtain ⟨q,v,r,F1,F2,e,e2,h1,h2,h3,h4,h5⟩:=h;exact ⟨q,v,r,F1,F2,e,e2,h1,h2,h3,Ow.mv m t (fun b hb=>g _ (h1 b hb)) h4,Owd.mv m ts (fun b hb=>g _ (h2 b hb)) h5⟩
end
def FzL.sub {a:Addr} {vs:List V} (ho:∀ a,O' a->O a) (h:FzL K O H a vs):FzL K O' H a vs:=h.imp (fun h=>⟨h.1,fun z=>h.2 (ho _ z)⟩) id
def FzT.sub {a:Addr} {vs:List V} (ho:∀ a,O' a->O a) (h:FzT K O H a vs):FzT K O' H a vs:=⟨h.1,fun z=>h.2 (ho _ z)⟩
mutual
theorem Ow.cut:∀ (t:D) {d d':Nat} {v:V} {F:AS},d'<=d->Ow K O H t d v F->∃ F':AS,(∀ b,F' b->F b)/\∀ O':AS,(∀ a,O' a->O a)->(∀ a,F a->O' a->F' a)->Ow K O' H t d' v F'
 | .none,_,_,_,F,_,h=>⟨F,fun _ z=>z,fun _ _ _=>h⟩
 | .bool _,_,_,_,F,_,h=>⟨F,fun _ z=>z,fun _ _ _=>h⟩
 | .int _,_,_,_,F,_,h=>⟨F,fun _ z=>z,fun _ _ _=>h⟩
 | .str _,_,_,_,F,_,h=>⟨F,fun _ z=>z,fun _ _ _=>h⟩
 | .tuple ts,d,d',_,F,hd,h=>by
  obtain ⟨a,vs,e,⟨h0,h1,h2⟩ | ⟨h0,h1,h2,G,hg,h3⟩⟩:=h
  ·subst h0;have e0:d'=0:=by omega
   subst e0;obtain ⟨F',s1,s2⟩:=Ows.cut ts (zav _) h2;exact ⟨F',s1,fun O' ho hx=>⟨a,vs,e,.inl ⟨rfl,h1.sub ho,s2 O' ho hx⟩⟩⟩
  ·by_cases e0:d'=0
   ·subst e0;obtain ⟨F',s1,s2⟩:=Ows.cut ts (Nat.zero_le _) h3;refine ⟨F',fun b hb=>(hg _ (s1 b hb)).1,fun O' ho hx=>⟨a,vs,e,.inl ⟨rfl,⟨h1,fun z=>(hg _ (s1 _ (hx _ h2 z))).2 rfl⟩,s2 O' ho fun b hb=>hx b (hg b hb).1⟩⟩⟩
   ·obtain ⟨F',s1,s2⟩:=Ows.cut ts (l7 hd) h3;refine ⟨fun b=>b=a\/F' b,fun b hb=>hb.elim (fun z=>z ▸ h2) fun z=>(hg _ (s1 b z)).1,fun O' ho hx=>⟨a,vs,e,.inr ⟨e0,h1,.inl rfl,F',fun b hb=>⟨.inr hb,(hg _ (s1 b hb)).2⟩,s2 O' ho fun b hb hz=>?_⟩⟩⟩;exact (hx b (hg b hb).1 hz).elim (fun z=>absurd z (hg b hb).2) id
 | .list ts,d,d',_,F,hd,h=>by
  obtain ⟨a,vs,e,⟨h0,h1,h2⟩ | ⟨h0,h1,h2,G,hg,h3⟩⟩:=h
  ·subst h0;have e0:d'=0:=by omega
   subst e0;obtain ⟨F',s1,s2⟩:=Ows.cut ts (zav _) h2;exact ⟨F',s1,fun O' ho hx=>⟨a,vs,e,.inl ⟨rfl,h1.sub ho,s2 O' ho hx⟩⟩⟩
  ·by_cases e0:d'=0
   ·subst e0;obtain ⟨F',s1,s2⟩:=Ows.cut ts (Nat.zero_le _) h3;refine ⟨F',fun b hb=>(hg _ (s1 b hb)).1,fun O' ho hx=>⟨a,vs,e,.inl ⟨rfl,.inl ⟨.inl h1,fun z=>(hg _ (s1 _ (hx _ h2 z))).2 rfl⟩,s2 O' ho fun b hb=>hx b (hg b hb).1⟩⟩⟩
   ·obtain ⟨F',s1,s2⟩:=Ows.cut ts (l7 hd) h3;refine ⟨fun b=>b=a\/F' b,fun b hb=>hb.elim (fun z=>z ▸ h2) fun z=>(hg _ (s1 b z)).1,fun O' ho hx=>⟨a,vs,e,.inr ⟨e0,h1,.inl rfl,F',fun b hb=>⟨.inr hb,(hg _ (s1 b hb)).2⟩,s2 O' ho fun b hb hz=>?_⟩⟩⟩;exact (hx b (hg b hb).1 hz).elim (fun z=>absurd z (hg b hb).2) id
 | .dict ts,d,d',_,F,hd,h=>by
  obtain ⟨a,vs,e,⟨h0,h1,hn,h2⟩ | ⟨h0,h1,h2,G,hg,h3⟩ | ⟨h0,ht⟩⟩:=h
  ·subst h0;have e0:d'=0:=by omega
   subst e0;obtain ⟨F',s1,s2⟩:=Owd.cut ts (zav _) h2;exact ⟨F',s1,fun O' ho hx=>⟨a,vs,e,.inl ⟨rfl,h1,fun z=>hn (ho _ z),s2 O' ho hx⟩⟩⟩
  ·by_cases e0:d'=0
   ·subst e0;obtain ⟨F',s1,s2⟩:=Owd.cut ts (Nat.zero_le _) h3;refine ⟨F',fun b hb=>(hg _ (s1 b hb)).1,fun O' ho hx=>⟨a,vs,e,.inl ⟨rfl,.inl h1,fun z=>(hg _ (s1 _ (hx _ h2 z))).2 rfl,s2 O' ho fun b hb=>hx b (hg b hb).1⟩⟩⟩
   ·obtain ⟨F',s1,s2⟩:=Owd.cut ts (l7 hd) h3;refine ⟨fun b=>b=a\/F' b,fun b hb=>hb.elim (fun z=>z ▸ h2) fun z=>(hg _ (s1 b z)).1,fun O' ho hx=>⟨a,vs,e,.inr (.inl ⟨e0,h1,.inl rfl,F',fun b hb=>⟨.inr hb,(hg _ (s1 b hb)).2⟩,s2 O' ho fun b hb hz=>?_⟩)⟩⟩;exact (hx b (hg b hb).1 hz).elim (fun z=>absurd z (hg b hb).2) id
  ·subst h0;have e0:d'=0:=by omega
   subst e0;exact ⟨F,fun _ z=>z,fun O' ho hx=>⟨a,vs,e,.inr (.inr ⟨rfl,ht.to fun o h2 hn=>⟨h2,fun z=>hn (ho _ z)⟩⟩)⟩⟩
theorem Ows.cut:∀ (ts:List D) {d d':Nat} {vs:List V} {F:AS},d'<=d->Ows K O H ts d vs F->∃ F':AS,(∀ b,F' b->F b)/\∀ O':AS,(∀ a,O' a->O a)->(∀ a,F a->O' a->F' a)->Ows K O' H ts d' vs F'
 | [],_,_,_,F,_,h=>⟨F,fun _ z=>z,fun _ _ _=>h⟩
 | t :: ts,_,_,_,F,hd,h=>by
  obtain ⟨v,r,F1,F2,e,h1,h2,h3,h4,h5⟩:=h;obtain ⟨G1,a1,a2⟩:=Ow.cut t hd h4;obtain ⟨G2,b1,b2⟩:=Ows.cut ts hd h5;refine ⟨fun b=>G1 b\/G2 b,fun b hb=>hb.elim (fun z=>h1 _ (a1 _ z)) fun z=>h2 _ (b1 _ z),fun O' ho hx=>⟨v,r,G1,G2,e,fun b=>.inl,fun b=>.inr,fun b z1 z2=>h3 b (a1 b z1) (b1 b z2),a2 O' ho fun b hb hz=>?_,b2 O' ho fun b hb hz=>?_⟩⟩
  ·exact (hx b (h1 b hb) hz).elim id fun z=>absurd (b1 b z) (h3 b hb)
  ·exact (hx b (h2 b hb) hz).elim (fun z=>absurd hb (h3 b (a1 b z))) id
theorem Owd.cut:∀ (ts:List (D × D)) {d d':Nat} {vs:List (Key × V)} {F:AS},d'<=d->Owd K O H ts d vs F->∃ F':AS,(∀ b,F' b->F b)/\∀ O':AS,(∀ a,O' a->O a)->(∀ a,F a->O' a->F' a)->Owd K O' H ts d' vs F'
 | [],_,_,_,F,_,h=>⟨F,fun _ z=>z,fun _ _ _=>h⟩
 | (k,t) :: ts,_,_,_,F,hd,h=>by
  obtain ⟨q,v,r,F1,F2,e,e2,h1,h2,h3,h4,h5⟩:=h;obtain ⟨G1,a1,a2⟩:=Ow.cut t hd h4;obtain ⟨G2,b1,b2⟩:=Owd.cut ts hd h5;refine ⟨fun b=>G1 b\/G2 b,fun b hb=>hb.elim (fun z=>h1 _ (a1 _ z)) fun z=>h2 _ (b1 _ z),fun O' ho hx=>⟨q,v,r,G1,G2,e,e2,fun b=>.inl,fun b=>.inr,fun b z1 z2=>h3 b (a1 b z1) (b1 b z2),a2 O' ho fun b hb hz=>?_,b2 O' ho fun b hb hz=>?_⟩⟩
  ·exact (hx b (h1 b hb) hz).elim id fun z=>absurd (b1 b z) (h3 b hb)
  ·exact (hx b (h2 b hb) hz).elim (fun z=>absurd hb (h3 b (a1 b z))) id
end
mutual
theorem Ow.grow (ho:∀ a,O' a->O a):∀ (t:D) {d:Nat} {v:V} {F F':AS},(∀ b,F b->F' b)->Ow K O H t d v F->Ow K O' H t d v F'
 | .none,_,_,_,_,_,h=>h
 | .bool _,_,_,_,_,_,h=>h
 | .int _,_,_,_,_,_,h=>h
 | .str _,_,_,_,_,_,h=>h
 | .tuple ts,_,_,_,_,hf,h=>by
  obtain ⟨a,vs,e,⟨h0,h1,h2⟩ | ⟨h0,h1,h2,G,hg,h3⟩⟩:=h
  ·exact ⟨a,vs,e,.inl ⟨h0,h1.sub ho,Ows.grow ho ts hf h2⟩⟩
  ·exact ⟨a,vs,e,.inr ⟨h0,h1,hf _ h2,G,fun b hb=>⟨hf _ (hg b hb).1,(hg b hb).2⟩,Ows.grow ho ts (fun _ z=>z) h3⟩⟩
 | .list ts,_,_,_,_,hf,h=>by
  obtain ⟨a,vs,e,⟨h0,h1,h2⟩ | ⟨h0,h1,h2,G,hg,h3⟩⟩:=h
  ·exact ⟨a,vs,e,.inl ⟨h0,h1.sub ho,Ows.grow ho ts hf h2⟩⟩
  ·exact ⟨a,vs,e,.inr ⟨h0,h1,hf _ h2,G,fun b hb=>⟨hf _ (hg b hb).1,(hg b hb).2⟩,Ows.grow ho ts (fun _ z=>z) h3⟩⟩
 | .dict ts,_,_,_,_,hf,h=>by
  obtain ⟨a,vs,e,⟨h0,h1,hn,h2⟩ | ⟨h0,h1,h2,G,hg,h3⟩ | ⟨h0,ht⟩⟩:=h
  ·exact ⟨a,vs,e,.inl ⟨h0,h1,fun z=>hn (ho _ z),Owd.grow ho ts hf h2⟩⟩
  ·exact ⟨a,vs,e,.inr (.inl ⟨h0,h1,hf _ h2,G,fun b hb=>⟨hf _ (hg b hb).1,(hg b hb).2⟩,Owd.grow ho ts (fun _ z=>z) h3⟩)⟩
  ·exact ⟨a,vs,e,.inr (.inr ⟨h0,ht.to fun o h2 hn=>⟨h2,fun z=>hn (ho _ z)⟩⟩)⟩
theorem Ows.grow (ho:∀ a,O' a->O a):∀ (ts:List D) {d:Nat} {vs:List V} {F F':AS},(∀ b,F b->F' b)->Ows K O H ts d vs F->Ows K O' H ts d vs F'
 | [],_,_,_,_,_,h=>h
 | t :: ts,_,_,_,_,hf,h=>by
  obtain ⟨v,r,F1,F2,e,h1,h2,h3,h4,h5⟩:=h;exact ⟨v,r,F1,F2,e,fun b z=>hf _ (h1 b z),fun b z=>hf _ (h2 b z),h3,Ow.grow ho t (fun _ z=>z) h4,Ows.grow ho ts (fun _ z=>z) h5⟩
theorem Owd.grow (ho:∀ a,O' a->O a):∀ (ts:List (D × D)) {d:Nat} {vs:List (Key × V)} {F F':AS},(∀ b,F b->F' b)->Owd K O H ts d vs F->Owd K O' H ts d vs F'
 | [],_,_,_,_,_,h=>h
 | (k,t) :: ts,_,_,_,_,hf,h=>by
  obtain ⟨q,v,r,F1,F2,e,e2,h1,h2,h3,h4,h5⟩:=h;exact ⟨q,v,r,F1,F2,e,e2,fun b z=>hf _ (h1 b z),fun b z=>hf _ (h2 b z),h3,Ow.grow ho t (fun _ z=>z) h4,Owd.grow ho ts (fun _ z=>z) h5⟩
end
mutual
theorem Ow.full:∀ (t:D) {d:Nat} {v:V} {F:AS},Ow K O H t (d+3) v F->Ow K O' H t (d+3) v F
 | .none,_,_,_,h=>h
 | .bool _,_,_,_,h=>h
 | .int _,_,_,_,h=>h
 | .str _,_,_,_,h=>h
 | .tuple ts,_,_,_,h=>by
  obtain ⟨a,vs,e,⟨h0,h1,h2⟩ | ⟨h0,h1,h2,G,hg,h3⟩⟩:=h
  ·cases h0
  ·exact ⟨a,vs,e,.inr ⟨h0,h1,h2,G,hg,Ows.full ts h3⟩⟩
 | .list ts,_,_,_,h=>by
  obtain ⟨a,vs,e,⟨h0,h1,h2⟩ | ⟨h0,h1,h2,G,hg,h3⟩⟩:=h
  ·cases h0
  ·exact ⟨a,vs,e,.inr ⟨h0,h1,h2,G,hg,Ows.full ts h3⟩⟩
 | .dict ts,_,_,_,h=>by
  obtain ⟨a,vs,e,⟨h0,h1,hn,h2⟩ | ⟨h0,h1,h2,G,hg,h3⟩ | ⟨h0,_⟩⟩:=h
  ·cases h0
  ·exact ⟨a,vs,e,.inr (.inl ⟨h0,h1,h2,G,hg,Owd.full ts h3⟩)⟩
  ·cases h0
theorem Ows.full:∀ (ts:List D) {d:Nat} {vs:List V} {F:AS},Ows K O H ts (d+3) vs F->Ows K O' H ts (d+3) vs F
 | [],_,_,_,h=>h
 | t :: ts,_,_,_,h=>by
  obtain ⟨v,r,F1,F2,e,h1,h2,h3,h4,h5⟩:=h;exact ⟨v,r,F1,F2,e,h1,h2,h3,Ow.full t h4,Ows.full ts h5⟩
theorem Owd.full:∀ (ts:List (D × D)) {d:Nat} {vs:List (Key × V)} {F:AS},Owd K O H ts (d+3) vs F->Owd K O' H ts (d+3) vs F
 | [],_,_,_,h=>h
 | (k,t) :: ts,_,_,_,h=>by
  obtain ⟨q,v,r,F1,F2,e,e2,h1,h2,h3,h4,h5⟩:=h;exact ⟨q,v,r,F1,F2,e,e2,h1,h2,h3,Ow.full t h4,Owd.full ts h5⟩
end
mutual
theorem Ow.any0:∀ (t:D) {v:V} {F F':AS},Ow K O H t 0 v F->Ow K O H t 0 v F'
 | .none,_,_,_,h=>h
 | .bool _,_,_,_,h=>h
 | .int _,_,_,_,h=>h
 | .str _,_,_,_,h=>h
 | .tuple ts,_,_,_,h=>by
  obtain ⟨a,vs,e,⟨h0,h1,h2⟩ | ⟨h0,_⟩⟩:=h
  ·exact ⟨a,vs,e,.inl ⟨rfl,h1,Ows.any0 ts h2⟩⟩
  ·exact absurd rfl h0
 | .list ts,_,_,_,h=>by
  obtain ⟨a,vs,e,⟨h0,h1,h2⟩ | ⟨h0,_⟩⟩:=h
  ·exact ⟨a,vs,e,.inl ⟨rfl,h1,Ows.any0 ts h2⟩⟩
  ·exact absurd rfl h0
 | .dict ts,_,_,_,h=>by
  obtain ⟨a,vs,e,⟨h0,h1,hn,h2⟩ | ⟨h0,_⟩ | ⟨_,ht⟩⟩:=h
  ·exact ⟨a,vs,e,.inl ⟨rfl,h1,hn,Owd.any0 ts h2⟩⟩
  ·exact absurd rfl h0
  ·exact ⟨a,vs,e,.inr (.inr ⟨rfl,ht⟩)⟩
theorem Ows.any0:∀ (ts:List D) {vs:List V} {F F':AS},Ows K O H ts 0 vs F->Ows K O H ts 0 vs F'
 | [],_,_,_,h=>h
 | t :: ts,_,_,_,h=>by
  obtain ⟨v,r,F1,F2,e,_,_,_,h4,h5⟩:=h;exact ⟨v,r,fun _=>False,fun _=>False,e,fun _ z=>z.elim,fun _ z=>z.elim,fun _ z=>z.elim,Ow.any0 t h4,Ows.any0 ts h5⟩
theorem Owd.any0:∀ (ts:List (D × D)) {vs:List (Key × V)} {F F':AS},Owd K O H ts 0 vs F->Owd K O H ts 0 vs F'
 | [],_,_,_,h=>h
 | (k,t) :: ts,_,_,_,h=>by
  obtain ⟨q,v,r,F1,F2,e,e2,_,_,_,h4,h5⟩:=h;exact ⟨q,v,r,fun _=>False,fun _=>False,e,e2,fun _ z=>z.elim,fun _ z=>z.elim,fun _ z=>z.elim,Ow.any0 t h4,Owd.any0 ts h5⟩
end
def Ow.fz {t:D} {d:Nat} {v:V} {F F2:AS} (ho:∀ a,O' a->O a) (hn:∀ a,F a->¬ O' a) (h:Ow K O H t d v F):Ow K O' H t 0 v F2:=by
 obtain ⟨F',s1,s2⟩:=Ow.cut t (Nat.zero_le d) h;exact Ow.any0 t (s2 O' ho fun a z1 z2=>absurd z2 (hn a z1))
end
def U (A B:AS):AS:=fun a=>A a\/B a
def Own (R:Nat->AS) (Ox:AS):AS:=fun a=>(∃ i,R i a)\/Ox a
def dq {A B:AS} (h:∀ a,A a↔B a):A=B:=funext fun a=>propext (h a)
structure EnvOk (K:PySem.W.Frag) (ds:List Nat) (Ox:AS) (H:Hp) (σ:St) (en:En) (R:Nat->AS):Prop where
 at_:∀ (i:Nat) (t:D),en[i]?=some (some t)->∃ v d,σ[i]?=some (some v)/\ds[i]?=some d/\Ow K (Own R Ox) H t d v (R i)
 dj:∀ i j a,R i a->R j a->i=j
 dx:∀ i a,R i a->¬ Ox a
 dom:∀ a,Own R Ox a->∃ o,H a=some o
 l1:en.length=σ.length
 l2:ds.length=σ.length
structure Post (K:PySem.W.Frag) (p:Bool) (ds':List Nat) (Ox:AS) (σ:St) (H:Hp) (en:En) (R:Nat->AS) (en':En) (H':Hp) (R':Nat->AS) (F:AS):Prop where
 env:EnvOk K ds' (U F Ox) H' σ en' R'
 fx:∀ a,F a->¬ Ox a
 keep:∀ a o,H a=some o->(∀ i,¬ R i a)->H' a=some o
 own:∀ a,(F a\/∃ i,R' i a)->(∃ i,R i a)\/H a=none
 dom:∀ a o,H a=some o->∃ o',H' a=some o'
 pure:p=true->en'=en/\R'=R/\∀ a o,H a=some o->H' a=some o
section
variable {K:PySem.W.Frag} {p p1 p2:Bool} {ds ds1 ds2 ds':List Nat} {Ox Ox':AS} {H H':Hp} {σ:St} {en en' en1 en2:En} {R R':Nat->AS} {d d1 d2:Nat} {t1 t2:D}
def EnvOk.grow (e:EnvOk K ds Ox H σ en R) (hk:∀ a o,H a=some o->H' a=some o) {F:AS} (hf:∀ a,F a->H a=none/\∃ o,H' a=some o):EnvOk K ds (U F Ox) H' σ en R:=by
 have fo:∀ a,F a->¬ Own R Ox a:=fun a z z2=>by
  obtain ⟨o,q⟩:=e.dom a z2;rw [(hf a z).1] at q;cases q
 refine ⟨fun i t h=>?_,e.dj,fun i a h z=>?_,fun a h=>?_,e.l1,e.l2⟩
 ·obtain ⟨v,d,h1,h2,h3⟩:=e.at_ i t h;refine ⟨v,d,h1,h2,Ow.mv (G:=R i) ⟨fun a o q _=>hk a o q,fun a z=>?_⟩ t (fun _ z=>z) h3⟩;rcases z with z | z | z
  ·exact .inl (.inl z)
  ·exact .inr (hf a z).1
  ·exact .inl (.inr z)
 ·rcases z with z | z
  ·exact fo a z (.inl ⟨i,h⟩)
  ·exact e.dx i a h z
 ·rcases h with h | h | h
  ·obtain ⟨o,q⟩:=e.dom a (.inl h);exact ⟨o,hk a o q⟩
  ·exact (hf a h).2
  ·obtain ⟨o,q⟩:=e.dom a (.inr h);exact ⟨o,hk a o q⟩
def EnvOk.fewer (e:EnvOk K ds Ox H σ en R) (h:∀ a,Ox' a->Ox a):EnvOk K ds Ox' H σ en R:=by
 refine ⟨fun i t q=>?_,e.dj,fun i a z1 z2=>e.dx i a z1 (h a z2),fun a z=>e.dom a (z.imp id (h a)),e.l1,e.l2⟩;obtain ⟨v,d,h1,h2,h3⟩:=e.at_ i t q;exact ⟨v,d,h1,h2,Ow.grow (fun a z=>z.imp id (h a)) t (fun _ z=>z) h3⟩
def tF (K:PySem.W.Frag) (p:Bool) (ds ds':List Nat) (d:Nat) (f:En->Option (D × En)):TE:=fun σ H Q =>
 ∃ Ox en R t en',EnvOk K ds Ox H σ en R/\f en=some (t,en')/\∀ v H' R' F,Post K p ds' Ox σ H en R en' H' R' F->Ow K (Own R' (U F Ox)) H' t d v F->Q v H'
def Post.refl (e:EnvOk K ds Ox H σ en R):Post K p ds Ox σ H en R en H R (fun _=>False):=by
 have eq:U (fun _=>False) Ox=Ox:=dq fun a=>⟨fun z=>z.elim (fun z=>z.elim) id,.inr⟩;exact ⟨eq.symm ▸ e,fun _ z=>z.elim,fun _ _ q _=>q,fun a z=>z.elim (fun z=>z.elim) .inl,fun a o q=>⟨o,q⟩,fun _=>⟨rfl,rfl,fun _ _ q=>q⟩⟩
def Post.new (e:EnvOk K ds Ox H σ en R) (hk:∀ a o,H a=some o->H' a=some o) {F:AS} (hf:∀ a,F a->H a=none/\∃ o,H' a=some o):Post K p ds Ox σ H en R en H' R F:=by
 refine ⟨e.grow hk hf,fun a z z2=>?_,fun a o q _=>hk a o q,fun a z=>z.elim (fun z=>.inr (hf a z).1) .inl,fun a o q=>⟨o,hk a o q⟩,fun _=>⟨rfl,rfl,hk⟩⟩;obtain ⟨o,q⟩:=e.dom a (.inr z2);rw [(hf a z).1] at q;cases q
def Post.trans {H1 H2:Hp} {R1 R2:Nat->AS} {F1 F2:AS} (P1:Post K p1 ds1 Ox σ H en R en1 H1 R1 F1) (P2:Post K p2 ds2 (U F1 Ox) σ H1 en1 R1 en2 H2 R2 F2) :
  Post K (p1 && p2) ds2 Ox σ H en R en2 H2 R2 (U F1 F2):=by
 have eq:U F2 (U F1 Ox)=U (U F1 F2) Ox:=dq fun a=>by unfold U; exact ⟨fun z=>by rcases z with z | z | z; exact .inl (.inr z); exact .inl (.inl z); exact .inr z,fun z=>by rcases z with (z | z) | z; exact .inr (.inl z); exact .inl z; exact .inr (.inr z)⟩
 have n1:∀ a,H1 a=none->H a=none:=fun a z=>by
  cases q:H a with
  | none=>rfl
  | some o =>
   obtain ⟨o',q'⟩:=P1.dom a o q;rw [z] at q';cases q'
 refine ⟨eq ▸ P2.env,fun a z z2=>?_,fun a o q n=>?_,fun a z=>?_,fun a o q=>?_,fun hp=>?_⟩
 ·rcases z with z | z
  ·exact P1.fx a z z2
  ·exact P2.fx a z (.inr z2)
 ·refine P2.keep a o (P1.keep a o q n) fun i z=>?_;rcases P1.own a (.inr ⟨i,z⟩) with ⟨j,z⟩ | z
  ·exact n j z
  ·rw [q] at z; cases z
 ·rcases z with (z | z) | z
  ·exact P1.own a (.inl z)
  ·rcases P2.own a (.inl z) with z | z
   ·exact P1.own a (.inr z)
   ·exact .inr (n1 a z)
  ·rcases P2.own a (.inr z) with z | z
   ·exact P1.own a (.inr z)
   ·exact .inr (n1 a z)
 ·obtain ⟨o',q'⟩:=P1.dom a o q;exact P2.dom a o' q'
 ·have h1:p1=true:=by cases p1 <;> simp_all
  have h2:p2=true:=by cases p2 <;> simp_all
  obtain ⟨a1,a2,a3⟩:=P1.pure h1;obtain ⟨b1,b2,b3⟩:=P2.pure h2;exact ⟨b1.trans a1,b2.trans a2,fun a o q=>b3 a o (a3 a o q)⟩
def Ow.over {H1 H2:Hp} {R1 R2:Nat->AS} {F1 F2:AS} {t:D} {v:V} (P1:EnvOk K ds1 (U F1 Ox) H1 σ en1 R1) (P2:Post K p2 ds2 (U F1 Ox) σ H1 en1 R1 en2 H2 R2 F2) (h:Ow K (Own R1 (U F1 Ox)) H1 t d v F1) :
  Ow K (Own R2 (U (U F1 F2) Ox)) H2 t d v F1:=by
 refine Ow.mv (G:=F1) ⟨fun a o q z=>P2.keep a o q fun i zi=>?_,fun a z=>?_⟩ t (fun _ z=>z) h
 ·rcases z with z | z
  ·exact z (.inl ⟨i,zi⟩)
  ·exact P1.dx i a zi (.inl z)
 ·rcases z with z | (z | z) | z
  ·rcases P2.own a (.inr z) with z | z
   ·exact .inl (.inl z)
   ·exact .inr z
  ·exact .inl (.inr (.inl z))
  ·rcases P2.own a (.inl z) with z | z
   ·exact .inl (.inl z)
   ·exact .inr z
  ·exact .inl (.inr (.inr z))
def ld {F1 F2:AS}:U F2 (U F1 Ox)=U (U F1 F2) Ox:=dq fun a=>by unfold U; exact ⟨fun z=>by rcases z with z | z | z; exact .inl (.inr z); exact .inl (.inl z); exact .inr z,fun z=>by rcases z with (z | z) | z; exact .inr (.inl z); exact .inl z; exact .inr (.inr z)⟩
def two {f g:En->Option (D × En)} {Q:V->V->Hp->Prop} (e:EnvOk K ds Ox H σ en R) (h1:f en=some (t1,en1)) (h2:g en1=some (t2,en2))
  (k:∀ x y H2 R2 F1 F2,Post K (p1 && p2) ds2 Ox σ H en R en2 H2 R2 (U F1 F2)->Ow K (Own R2 (U (U F1 F2) Ox)) H2 t1 d1 x F1->Ow K (Own R2 (U (U F1 F2) Ox)) H2 t2 d2 y F2->Q x y H2) :
  tF K p1 ds ds1 d1 f σ H fun x H1=>tF K p2 ds1 ds2 d2 g σ H1 fun y H2=>Q x y H2:=by
 refine ⟨Ox,en,R,t1,en1,e,h1,fun x H1 R1 F1 P1 o1=>?_⟩;refine ⟨U F1 Ox,en1,R1,t2,en2,P1.env,h2,fun y H2 R2 F2 P2 o2=>?_⟩;exact k x y H2 R2 F1 F2 (P1.trans P2) (Ow.over P1.env P2 o1) (ld ▸ o2)
end
abbrev ME:=En->Option (D × En)
abbrev MT:=En->Option (Bool × En)
abbrev MA:=En->Option (List (D ⊕ Nat) × En)
def aa (i:Nat):ME:=fun en=>(en[i]?).join.map fun t=>(t,en)
def eMv (i:Nat):ME:=fun en=>(en[i]?).join.map fun t=>(t,en.set i none)
def eC (t:D):ME:=fun en=>some (t,en)
def e1 (g:D->Option D) (f:ME):ME:=fun en=>(f en).bind fun r=>(g r.1).map fun t=>(t,r.2)
def e2 (g:D->D->Option D) (f1 f2:ME):ME:=fun en=>(f1 en).bind fun r=>(f2 r.2).bind fun q=>(g r.1 q.1).map fun t=>(t,q.2)
def jx (f g:ME):ME:=fun en=>(f en).bind fun r=>match r.1 with
 | .bool true=>g r.2
 | .bool false=>some (.bool false,r.2)
 | _=>none
def eOr (f g:ME):ME:=fun en=>(f en).bind fun r=>match r.1 with
 | .bool true=>some (.bool true,r.2)
 | .bool false=>g r.2
 | _=>none
def l6 (f:ME):ME:=fun en=>(f en).bind fun r=>match r.1 with
 | .bool b=>some (.bool (!b),r.2)
 | _=>none
def eIf (c:MT) (f g:ME):ME:=fun en=>(c en).bind fun r=>if r.1 then f r.2 else g r.2
def tV (f:ME):MT:=fun en=>(f en).bind fun r=>match r.1 with
 | .bool b=>some (b,r.2)
 | _=>none
def cu (f g:MT):MT:=fun en=>(f en).bind fun r=>if r.1 then g r.2 else some (false,r.2)
def bOr (f g:MT):MT:=fun en=>(f en).bind fun r=>if r.1 then some (true,r.2) else g r.2
def jC (f:MT):MT:=fun en=>(f en).map fun r=>(!r.1,r.2)
def ah:MA:=fun en=>some ([],en)
def ad (f:ME) (r:MA):MA:=fun en=>(f en).bind fun x=>(r x.2).map fun y=>(.inl x.1 :: y.1,y.2)
def az (i:Nat) (r:MA):MA:=fun en=>(en[i]?).join.bind fun _=>(r en).map fun y=>(.inr i :: y.1,y.2)
def vals:List (D ⊕ Nat)->Option (List D)
 | []=>some []
 | .inl t :: r=>(vals r).map (t :: ·)
 | .inr _ :: _=>none
def eN (g:List D->Option D) (fa:MA):ME:=fun en=>(fa en).bind fun r=>(vals r.1).bind fun ts=>(g ts).map fun t=>(t,r.2)
def NewTo (H H':Hp) (F:AS):Prop:=(∀ a o,H a=some o->H' a=some o)/\∀ a,F a->H a=none/\∃ o,H' a=some o
def NoA:AS:=fun _=>False
def gy {A:AS}:U NoA A=A:=dq fun a=>⟨fun z=>z.elim (fun z=>z.elim) id,.inr⟩
def rF1 (K:PySem.W.Frag) (g:D->Option D) (d:Nat):V->Hp->VK->Prop:=fun x H Q=>∃ (O:AS) (a t:D),Ow K O H a 0 x NoA/\(∀ a,O a->∃ o,H a=some o)/\g a=some t/\∀ v H' F,NewTo H H' F->Ow K (U F O) H' t d v F->Q v H'
def rF2 (K:PySem.W.Frag) (g:D->D->Option D) (d:Nat):R2:=fun x y H Q=>∃ (O:AS) (a b t:D),Ow K O H a 0 x NoA/\Ow K O H b 0 y NoA/\(∀ a,O a->∃ o,H a=some o)/\g a b=some t/\∀ v H' F,NewTo H H' F->Ow K (U F O) H' t d v F->Q v H'
def rFn (K:PySem.W.Frag) (g:List D->Option D) (d:Nat):List V->Hp->VK->Prop:=fun xs H Q=>∃ (O:AS) (ts:List D) (t:D),Ows K O H ts 0 xs NoA/\(∀ a,O a->∃ o,H a=some o)/\g ts=some t/\∀ v H' F,NewTo H H' F->Ow K (U F O) H' t d v F->Q v H'
section
variable {K:PySem.W.Frag} {p p1 p2:Bool} {ds ds0 ds1 ds2 ds':List Nat} {Ox Ox':AS} {H H':Hp} {σ:St} {en en' en1 en2:En} {R R':Nat->AS} {d d' d1 d2:Nat} {t t1 t2:D} {Q:VK} {f f1 f2 fa fb:ME}
def qZ {F:AS}:U F (Own R Ox)=Own R (U F Ox):=dq fun a=>by
 unfold U Own;exact ⟨fun z=>by rcases z with z | z | z; exact .inr (.inl z); exact .inl z; exact .inr (.inr z),fun z=>by rcases z with z | z | z; exact .inr (.inl z); exact .inl z; exact .inr (.inr z)⟩
def Post.fin {H1:Hp} {F0 F:AS} (P:Post K p ds' Ox σ H en R en' H1 R' F0) (n:NewTo H1 H' F):Post K p ds' Ox σ H en R en' H' R' F:=by
 have e:=P.env.fewer (Ox':=Ox) fun a z=>.inr z;have n1:∀ a,H1 a=none->H a=none:=fun a z=>by
  cases q:H a with
  | none=>rfl
  | some o =>
   obtain ⟨o',q'⟩:=P.dom a o q;rw [z] at q';cases q'
 refine ⟨e.grow n.1 n.2,fun a z z2=>?_,fun a o q nn=>n.1 a o (P.keep a o q nn),fun a z=>?_,fun a o q=>?_,fun hp=>?_⟩
 ·obtain ⟨o,q⟩:=e.dom a (.inr z2);rw [(n.2 a z).1] at q;cases q
 ·rcases z with z | z
  ·exact .inr (n1 a (n.2 a z).1)
  ·exact P.own a (.inr z)
 ·obtain ⟨o',q'⟩:=P.dom a o q;exact ⟨o',n.1 a o' q'⟩
 ·obtain ⟨a1,a2,a3⟩:=P.pure hp;exact ⟨a1,a2,fun a o q=>n.1 a o (a3 a o q)⟩
def Post.less {F F':AS} (P:Post K p ds' Ox σ H en R en' H' R' F) (h:∀ a,F' a->F a):Post K p ds' Ox σ H en R en' H' R' F' :=
 ⟨P.env.fewer fun a z=>z.imp (h a) id,fun a z=>P.fx a (h a z),P.keep,fun a z=>P.own a (z.imp (h a) id),P.dom,P.pure⟩
def Ow.letgo {F F0:AS} {v:V} (P:Post K p ds' Ox σ H en R en' H' R' F0) (hf:∀ a,F a->F0 a) (h:Ow K (Own R' (U F0 Ox)) H' t d v F):Ow K (Own R' Ox) H' t 0 v NoA:=by
 refine Ow.fz (fun a z=>z.imp id .inr) (fun a z z2=>?_) h;rcases z2 with ⟨i,z2⟩ | z2
 ·exact P.env.dx i a z2 (.inl (hf a z))
 ·exact P.fx a (hf a z) z2
def Post.doms {F0:AS} (P:Post K p ds' Ox σ H en R en' H' R' F0):∀ a,Own R' Ox a->∃ o,H' a=some o:=fun a z=>P.env.dom a (z.imp id .inr)
def G7 (hd:ds[i]?=some 0) (h:tF K true ds ds 0 (aa i) σ H Q):eZ i σ H Q:=by
 obtain ⟨Ox,en,R,t,en',e,hf,k⟩:=h;unfold aa at hf;cases q:en[i]? with
 | none=>rw [q] at hf; cases hf
 | some o =>
  rw [q] at hf;cases o with
  | none=>cases hf
  | some t' =>
   cases hf;obtain ⟨v,d,h1,h2,h3⟩:=e.at_ i t q;rw [hd] at h2;cases h2;exact ⟨v,h1,k v H R NoA (Post.refl e) (by rw [gy]; exact Ow.any0 t h3)⟩
def HF (hd:ds[i]?=some d) (h:tF K false ds (ds.set i 0) d (eMv i) σ H Q):eZ i σ H Q:=by
 obtain ⟨Ox,en,R,t,en',e,hf,k⟩:=h;unfold eMv at hf;cases q:en[i]? with
 | none=>rw [q] at hf; cases hf
 | some o =>
  rw [q] at hf;cases o with
  | none=>cases hf
  | some t' =>
   cases hf;obtain ⟨v,d',h1,h2,h3⟩:=e.at_ i t q;rw [hd] at h2;cases h2;have eq:Own (fun j=>if j=i then NoA else R j) (U (R i) Ox)=Own R Ox:=dq fun a=>by
    unfold Own U;constructor
    ·rintro (⟨j,z⟩ | z | z)
     ·by_cases hj:j=i
      ·rw [if_pos hj] at z; exact z.elim
      ·rw [if_neg hj] at z; exact .inl ⟨j,z⟩
     ·exact .inl ⟨i,z⟩
     ·exact .inr z
    ·rintro (⟨j,z⟩ | z)
     ·by_cases hj:j=i
      ·subst hj; exact .inr (.inl z)
      ·exact .inl ⟨j,by show (if j=i then NoA else R j) a; rw [if_neg hj]; exact z⟩
     ·exact .inr (.inr z)
   refine ⟨v,h1,k v H (fun j=>if j=i then NoA else R j) (R i) ⟨⟨fun j u hu=>?_,fun j j' a z z'=>?_,fun j a z=>?_,fun a z=>e.dom a (eq ▸ z),?_,?_⟩,e.dx i,fun a o q _=>q,fun a z=>?_,fun a o q=>⟨o,q⟩,fun z=>nomatch z⟩ (eq.symm ▸ h3)⟩
   ·by_cases hj:j=i
    ·subst hj;rw [List.getElem?_set_self' ] at hu;rw [q] at hu;cases hu
    ·rw [zaO (Ne.symm hj)] at hu;obtain ⟨v',d',a1,a2,a3⟩:=e.at_ j u hu;refine ⟨v',d',a1,by rw [zaO (Ne.symm hj)]; exact a2,?_⟩;rw [if_neg hj,eq];exact a3
   ·by_cases hj:j=i
    ·rw [if_pos hj] at z; exact z.elim
    ·rw [if_neg hj] at z;by_cases hj':j'=i
     ·rw [if_pos hj'] at z'; exact z'.elim
     ·rw [if_neg hj'] at z'; exact e.dj j j' a z z'
   ·by_cases hj:j=i
    ·rw [if_pos hj] at z; exact z.elim
    ·rw [if_neg hj] at z;rintro (z2 | z2)
     ·exact hj (e.dj j i a z z2)
     ·exact e.dx j a z z2
   ·rw [zaV]; exact e.l1
   ·rw [zaV]; exact e.l2
   ·rcases z with z | ⟨j,z⟩
    ·exact .inl ⟨i,z⟩
    ·by_cases hj:j=i
     ·rw [if_pos hj] at z; exact z.elim
     ·rw [if_neg hj] at z; exact .inl ⟨j,z⟩
def f_c {v:V} (hv:∀ K O H F,Ow K O H t 3 v F) (h:tF K true ds ds 3 (eC t) σ H Q):tC v σ H Q:=by
 obtain ⟨Ox,en,R,t',en',e,hf,k⟩:=h;cases hf;exact k v H R NoA (Post.refl e) (hv _ _ _ _)
def G9 (hd:d'<=d) (h:tF K p ds ds' d' f σ H Q):tF K p ds ds' d f σ H Q:=by
 obtain ⟨Ox,en,R,t,en',e,hf,k⟩:=h;refine ⟨Ox,en,R,t,en',e,hf,fun v H' R' F P o=>?_⟩;obtain ⟨F',s1,s2⟩:=Ow.cut t hd o;refine k v H' R' F' (P.less s1) (s2 _ (fun a z=>z.imp id fun z=>z.imp (s1 a) id) fun a z z2=>?_);rcases z2 with ⟨i,z2⟩ | z2 | z2
 ·exact absurd (.inl z) (P.env.dx i a z2)
 ·exact z2
 ·exact absurd z2 (P.fx a z)
def kW (hp:p'=true->p=true) (h:tF K p' ds ds' d f σ H Q):tF K p ds ds' d f σ H Q:=by
 obtain ⟨Ox,en,R,t,en',e,hf,k⟩:=h;exact ⟨Ox,en,R,t,en',e,hf,fun v H' R' F P o=>k v H' R' F ⟨P.env,P.fx,P.keep,P.own,P.dom,fun z=>P.pure (hp z)⟩ o⟩
def EnvOk.cut (e:EnvOk K ds Ox H σ en R) (hl:ds0.length=ds.length) (hd:∀ (i:Nat) a b,ds0[i]?=some a->ds[i]?=some b->a<=b):∃ R',(∀ i a,R' i a->R i a)/\EnvOk K ds0 Ox H σ en R':=by
 have ch:∀ i,∃ F':AS,(∀ b,F' b->R i b)/\∀ t v d0,en[i]?=some (some t)->σ[i]?=some (some v)->ds0[i]?=some d0->∀ O':AS,(∀ a,O' a->Own R Ox a)->(∀ a,R i a->O' a->F' a)->Ow K O' H t d0 v F':=fun i=>by
  by_cases h:∃ t,en[i]?=some (some t)
  ·obtain ⟨t,ht⟩:=h;obtain ⟨v,d,h1,h2,h3⟩:=e.at_ i t ht;cases q:ds0[i]? with
   | none=>exact ⟨NoA,fun _ z=>z.elim,fun _ _ _ _ _ z=>nomatch z⟩
   | some d0 =>
    obtain ⟨F',s1,s2⟩:=Ow.cut t (hd i d0 d q h2) h3;refine ⟨F',s1,fun t' v' d0' h1' h2' h3' O'=>?_⟩;rw [ht] at h1'; cases h1';rw [h1] at h2'; cases h2';cases h3';exact s2 O'
  ·exact ⟨NoA,fun _ z=>z.elim,fun t _ _ ht=>absurd ⟨t,ht⟩ h⟩
 refine ⟨fun i=>(ch i).choose,fun i=>(ch i).choose_spec.1,fun i t ht=>?_,fun i j a z1 z2=>e.dj i j a ((ch i).choose_spec.1 a z1) ((ch j).choose_spec.1 a z2),fun i a z=>e.dx i a ((ch i).choose_spec.1 a z),fun a z=>e.dom a (z.imp (fun ⟨i,z⟩=>⟨i,(ch i).choose_spec.1 a z⟩) id),e.l1,hl.trans e.l2⟩;obtain ⟨v,d,h1,h2,h3⟩:=e.at_ i t ht;have hi:i < ds0.length:=by rw [hl]; exact (zah.mp h2).1
 refine ⟨v,ds0[i],h1,zak hi,(ch i).choose_spec.2 t v _ ht h1 (zak hi) _ (fun a z=>z.imp (fun ⟨j,z⟩=>⟨j,(ch j).choose_spec.1 a z⟩) id) fun a z z2=>?_⟩;rcases z2 with ⟨j,z2⟩ | z2
 ·have:=e.dj i j a z ((ch j).choose_spec.1 a z2);subst this;exact z2
 ·exact absurd z2 (e.dx i a z)
def leD:List Nat->List Nat->Bool
 | [],[]=>true
 | a :: r,b :: s=>decide (a<=b) && leD r s
 | _,_=>false
def dg:∀ {a b:List Nat},leD a b=true->a.length=b.length/\∀ (i:Nat) x y,a[i]?=some x->b[i]?=some y->x<=y
 | [],[],_=>⟨rfl,fun i x y h=>by simp at h⟩
 | a :: r,b :: s,h=>by
  unfold leD at h;rw [Bool.and_eq_true] at h;obtain ⟨h1,h2⟩:=h;obtain ⟨h3,h4⟩:=dg h2;refine ⟨by rw [zac,zac,h3],fun i x y e1 e2=>?_⟩;cases i with
  | zero=>cases e1; cases e2; exact of_decide_eq_true h1
  | succ i=>exact h4 i x y e1 e2
 | [],_ :: _,h=>nomatch h
 | _ :: _,[],h=>nomatch h
def HH (hd:leD ds0 ds=true) (h:tF K false ds ds' d f σ H Q):tF K p ds0 ds' d f σ H Q:=by
 obtain ⟨Ox,en,R,t,en',e,hf,k⟩:=h;obtain ⟨R1,s1,e1⟩:=e.cut (dg hd).1 (dg hd).2;refine ⟨Ox,en,R1,t,en',e1,hf,fun v H' R' F P o=>k v H' R' F ⟨P.env,P.fx,fun a o q n=>P.keep a o q fun i z=>n i (s1 i a z),fun a z=>(P.own a z).imp (fun ⟨i,z⟩=>⟨i,s1 i a z⟩) id,P.dom,fun z=>nomatch z⟩ o⟩
def Hh (hd:leD ds0 ds=true) (h:tF K true ds ds 3 f σ H Q):tF K true ds0 ds0 3 f σ H Q:=by
 obtain ⟨Ox,en,R,t,en',e,hf,k⟩:=h;obtain ⟨R1,s1,e1⟩:=e.cut (dg hd).1 (dg hd).2;refine ⟨Ox,en,R1,t,en',e1,hf,fun v H' R' F P o=>?_⟩;obtain ⟨a1,a2,a3⟩:=P.pure rfl;subst a1 a2;have nf:∀ a,F a->H a=none:=fun a z=>by
  rcases P.own a (.inl z) with ⟨i,z2⟩ | z2
  ·exact absurd (.inl z) (P.env.dx i a z2)
  ·exact z2
 have nt:NewTo H H' F:=⟨a3,fun a z=>⟨nf a z,P.env.dom a (.inr (.inl z))⟩⟩;exact k v H' R F (Post.new e nt.1 nt.2) (Ow.full t o)
def Hb {g:D->Option D} (h:tF K p ds ds1 d (e1 g f) σ H Q):tUn (rF1 K g d) (tF K p ds ds1 d1 f) σ H Q:=by
 obtain ⟨Ox,en,R,t,en',e,hf,k⟩:=h;unfold e1 at hf;obtain ⟨⟨t1,en1⟩,h1,hf⟩:=zaa.mp hf;obtain ⟨t',h3,hf⟩:=zab.mp hf;cases hf;refine ⟨Ox,en,R,t1,en1,e,h1,fun v H' R' F P o=>?_⟩;refine ⟨Own R' Ox,t1,t,Ow.letgo P (fun _ z=>z) o,P.doms,h3,fun v2 H2 F2 n o2=>k v2 H2 R' F2 (P.fin n) (qZ ▸ o2)⟩
def mX {g:D->D->Option D} (h:tF K (p1 && p2) ds ds2 d (e2 g f1 f2) σ H Q):tOp (rF2 K g d) (tF K p1 ds ds1 d1 f1) (tF K p2 ds1 ds2 d2 f2) σ H Q:=by
 obtain ⟨Ox,en,R,t,en',e,hf,k⟩:=h;unfold e2 at hf;obtain ⟨⟨t1,en1⟩,h1,hf⟩:=zaa.mp hf;obtain ⟨⟨t2,en2⟩,h2,hf⟩:=zaa.mp hf;obtain ⟨t',h3,hf⟩:=zab.mp hf;cases hf;refine two e h1 h2 fun x y H2 R2 F1 F2 P o1 o2=>?_;exact ⟨Own R2 Ox,t1,t2,t,Ow.letgo P (fun _=>.inl) o1,Ow.letgo P (fun _=>.inr) o2,P.doms,h3,fun v2 H3 F3 n o3=>k v2 H3 R2 F3 (P.fin n) (qZ ▸ o3)⟩
def Post.after {H1:Hp} {R1 R2:Nat->AS} {F1 F:AS} (P1:Post K p1 ds1 Ox σ H en R en1 H1 R1 F1) (P2:Post K p2 ds2 Ox σ H1 en1 R1 en2 H' R2 F):Post K (p1 && p2) ds2 Ox σ H en R en2 H' R2 F:=by
 have P1':=P1.less (F':=NoA) fun _ z=>z.elim;have P2':Post K p2 ds2 (U NoA Ox) σ H1 en1 R1 en2 H' R2 F:=by rw [gy]; exact P2
 have:=P1'.trans P2';rw [gy] at this;exact this
def Post.env0 {F:AS} (P:Post K p ds' Ox σ H en R en' H' R' F):EnvOk K ds' Ox H' σ en' R':=P.env.fewer fun a z=>.inr z
def Hj (h:tF K (p1 && p2) ds ds1 d (jx f1 f2) σ H Q):Al (tF K p1 ds ds1 d1 f1) (tF K p2 ds1 ds1 d f2) σ H Q:=by
 obtain ⟨Ox,en,R,t,en',e,hf,k⟩:=h;unfold jx at hf;obtain ⟨⟨t1,en1⟩,h1,hf⟩:=zaa.mp hf;refine ⟨Ox,en,R,t1,en1,e,h1,fun v H1 R1 F1 P1 o1=>?_⟩;cases t1 with
 | bool b =>
  have ev:v=.bl b:=o1;refine ⟨b,ev,?_⟩;cases b with
  | true =>
   rw [if_pos rfl];exact ⟨Ox,en1,R1,t,en',P1.env0,hf,fun v2 H2 R2 F2 P2 o2=>k v2 H2 R2 F2 (P1.after P2) o2⟩
  | false =>
   cases hf;rw [if_neg Bool.false_ne_true];refine k _ H1 R1 NoA ?_ rfl
   have:=(P1.less (F':=NoA) fun _ z=>z.elim);exact ⟨this.env,this.fx,this.keep,this.own,this.dom,fun hp=>this.pure (by cases p1 <;> simp_all)⟩
 | _=>cases hf
def HE (h:tF K (p1 && p2) ds ds1 d (eOr f1 f2) σ H Q):Ed (tF K p1 ds ds1 d1 f1) (tF K p2 ds1 ds1 d f2) σ H Q:=by
 obtain ⟨Ox,en,R,t,en',e,hf,k⟩:=h;unfold eOr at hf;obtain ⟨⟨t1,en1⟩,h1,hf⟩:=zaa.mp hf;refine ⟨Ox,en,R,t1,en1,e,h1,fun v H1 R1 F1 P1 o1=>?_⟩;cases t1 with
 | bool b =>
  have ev:v=.bl b:=o1;refine ⟨b,ev,?_⟩;cases b with
  | false =>
   rw [if_neg Bool.false_ne_true];exact ⟨Ox,en1,R1,t,en',P1.env0,hf,fun v2 H2 R2 F2 P2 o2=>k v2 H2 R2 F2 (P1.after P2) o2⟩
  | true =>
   cases hf;rw [if_pos rfl];refine k _ H1 R1 NoA ?_ rfl
   have:=(P1.less (F':=NoA) fun _ z=>z.elim);exact ⟨this.env,this.fx,this.keep,this.own,this.dom,fun hp=>this.pure (by cases p1 <;> simp_all)⟩
 | _=>cases hf
def Hc (h:tF K p ds ds1 3 (l6 f) σ H Q):Ah (tF K p ds ds1 d1 f) σ H Q:=by
 obtain ⟨Ox,en,R,t,en',e,hf,k⟩:=h;unfold l6 at hf;obtain ⟨⟨t1,en1⟩,h1,hf⟩:=zaa.mp hf;refine ⟨Ox,en,R,t1,en1,e,h1,fun v H1 R1 F1 P1 o1=>?_⟩;cases t1 with
 | bool b =>
  cases hf;exact ⟨b,o1,k _ H1 R1 NoA (P1.less fun _ z=>z.elim) rfl⟩
 | _=>cases hf
def tFT (K:PySem.W.Frag) (p:Bool) (ds ds':List Nat) (f:MT):TT:=fun σ H Q =>
 ∃ Ox en R b en',EnvOk K ds Ox H σ en R/\f en=some (b,en')/\∀ H' R',Post K p ds' Ox σ H en R en' H' R' NoA->Q b H'
variable {c c1 c2:MT} {QT:Bool->Hp->Prop}
def nW (h:tFT K p ds ds' (tV f) σ H QT):tB (tF K p ds ds' d f) σ H QT:=by
 obtain ⟨Ox,en,R,b,en',e,hf,k⟩:=h;unfold tV at hf;obtain ⟨⟨t1,en1⟩,h1,hf⟩:=zaa.mp hf;refine ⟨Ox,en,R,t1,en1,e,h1,fun v H1 R1 F1 P1 o1=>?_⟩;cases t1 with
 | bool b =>
  cases hf;exact ⟨_,o1,k H1 R1 (P1.less fun _ z=>z.elim)⟩
 | _=>cases hf
def Fk (h:tFT K (p1 && p2) ds ds1 (cu c1 c2) σ H QT):Ek (tFT K p1 ds ds1 c1) (tFT K p2 ds1 ds1 c2) σ H QT:=by
 obtain ⟨Ox,en,R,b,en',e,hf,k⟩:=h;unfold cu at hf;obtain ⟨⟨b1,en1⟩,h1,hf⟩:=zaa.mp hf;refine ⟨Ox,en,R,b1,en1,e,h1,fun H1 R1 P1=>?_⟩;cases b1 with
 | true =>
  rw [if_pos rfl];exact ⟨Ox,en1,R1,b,en',P1.env0,hf,fun H2 R2 P2=>k H2 R2 (P1.after P2)⟩
 | false =>
  cases hf;rw [if_neg Bool.false_ne_true];exact k H1 R1 ⟨P1.env,P1.fx,P1.keep,P1.own,P1.dom,fun hp=>P1.pure (by cases p1 <;> simp_all)⟩
def GP (h:tFT K (p1 && p2) ds ds1 (bOr c1 c2) σ H QT):tOr (tFT K p1 ds ds1 c1) (tFT K p2 ds1 ds1 c2) σ H QT:=by
 obtain ⟨Ox,en,R,b,en',e,hf,k⟩:=h;unfold bOr at hf;obtain ⟨⟨b1,en1⟩,h1,hf⟩:=zaa.mp hf;refine ⟨Ox,en,R,b1,en1,e,h1,fun H1 R1 P1=>?_⟩;cases b1 with
 | false =>
  rw [if_neg Bool.false_ne_true];exact ⟨Ox,en1,R1,b,en',P1.env0,hf,fun H2 R2 P2=>k H2 R2 (P1.after P2)⟩
 | true =>
  cases hf;rw [if_pos rfl];exact k H1 R1 ⟨P1.env,P1.fx,P1.keep,P1.own,P1.dom,fun hp=>P1.pure (by cases p1 <;> simp_all)⟩
def Fi (h:tFT K p ds ds1 (jC c) σ H QT):Ee (tFT K p ds ds1 c) σ H QT:=by
 obtain ⟨Ox,en,R,b,en',e,hf,k⟩:=h;unfold jC at hf;obtain ⟨⟨b1,en1⟩,h1,hf⟩:=zab.mp hf;cases hf;exact ⟨Ox,en,R,b1,_,e,h1,fun H1 R1 P1=>k H1 R1 P1⟩
def Fj (hd:leD ds0 ds=true) (h:tFT K true ds ds c σ H QT):tFT K true ds0 ds0 c σ H QT:=by
 obtain ⟨Ox,en,R,t,en',e,hf,k⟩:=h;obtain ⟨R1,s1,e1⟩:=e.cut (dg hd).1 (dg hd).2;refine ⟨Ox,en,R1,t,en',e1,hf,fun H' R' P=>?_⟩;obtain ⟨a1,a2,a3⟩:=P.pure rfl;subst a1 a2;exact k H' R (Post.new e a3 fun _ z=>z.elim)
def HG (h:tF K (p && (p1 && p2)) ds ds2 d (eIf c f1 f2) σ H Q):tIf (tFT K p ds ds1 c) (tF K p1 ds1 ds2 d f1) (tF K p2 ds1 ds2 d f2) σ H Q:=by
 obtain ⟨Ox,en,R,t,en',e,hf,k⟩:=h;unfold eIf at hf;obtain ⟨⟨b1,en1⟩,h1,hf⟩:=zaa.mp hf;refine ⟨Ox,en,R,b1,en1,e,h1,fun H1 R1 P1=>?_⟩;cases b1 with
 | true =>
  rw [if_pos rfl];refine ⟨Ox,en1,R1,t,en',P1.env0,hf,fun v H2 R2 F2 P2 o2=>k v H2 R2 F2 ?_ o2⟩
  have:=P1.after P2;exact ⟨this.env,this.fx,this.keep,this.own,this.dom,fun hp=>this.pure (by cases p <;> cases p1 <;> simp_all)⟩
 | false =>
  rw [if_neg Bool.false_ne_true];refine ⟨Ox,en1,R1,t,en',P1.env0,hf,fun v H2 R2 F2 P2 o2=>k v H2 R2 F2 ?_ o2⟩
  have:=P1.after P2;exact ⟨this.env,this.fx,this.keep,this.own,this.dom,fun hp=>this.pure (by cases p <;> cases p1 <;> simp_all)⟩
end
abbrev Sh:=List (Nat ⊕ Nat)
def OwA (K:PySem.W.Frag) (O:AS) (H:Hp) (σ:St):List (D ⊕ Nat)->Sh->List V->AS->Prop
 | [],ds,vs,_=>ds=[]/\vs=[]
 | .inl t :: as,ds,vs,F=>∃ v r d dr,∃ F1 F2:AS,vs=v :: r/\ds=.inl d :: dr/\(∀ b,F1 b->F b)/\(∀ b,F2 b->F b)/\(∀ b,F1 b->¬ F2 b)/\Ow K O H t d v F1/\OwA K O H σ as dr r F2
 | .inr i :: as,ds,vs,F=>∃ v r dr,vs=v :: r/\ds=.inr i :: dr/\σ[i]?=some (some v)/\OwA K O H σ as dr r F
def tFA (K:PySem.W.Frag) (p:Bool) (ds ds':List Nat) (sh:Sh) (f:MA):TA:=fun σ H Q =>
 ∃ Ox en R as en',EnvOk K ds Ox H σ en R/\f en=some (as,en')/\∀ vs H' R' F,Post K p ds' Ox σ H en R en' H' R' F->OwA K (Own R' (U F Ox)) H' σ as sh vs F->Q vs H'
def aO (fa:MA):ME:=fun en=>(fa en).bind fun r=>(vals r.1).bind fun ts=>if ts.length<=sizeLine then some (.list ts,r.2) else none
def cR (fa:MA):ME:=fun en=>(fa en).bind fun r=>(vals r.1).bind fun ts=>if ts.length<=sizeLine then some (.tuple ts,r.2) else none
section
variable {K:PySem.W.Frag} {p p1 p2:Bool} {ds ds0 ds1 ds2 ds':List Nat} {Ox Ox' O O':AS} {H H':Hp} {σ:St} {en en' en1 en2:En} {R R':Nat->AS} {d d' d1 d2:Nat} {t t1 t2:D} {Q:VK} {f f1 f2:ME} {fa:MA} {sh:Sh} {QA:List V->Hp->Prop} {i:Nat}
def sX (h:tFA K true ds ds [] ah σ H QA):m6 σ H QA:=by
 obtain ⟨Ox,en,R,as,en',e,hf,k⟩:=h;cases hf;exact k [] H R NoA (Post.refl e) ⟨rfl,rfl⟩
def lY (h:tFA K (p1 && p2) ds ds2 (.inl d :: sh) (ad f fa) σ H QA):gF (tF K p1 ds ds1 d f) (tFA K p2 ds1 ds2 sh fa) σ H QA:=by
 obtain ⟨Ox,en,R,as,en',e,hf,k⟩:=h;unfold ad at hf;obtain ⟨⟨t1,en1⟩,h1,hf⟩:=zaa.mp hf;obtain ⟨⟨as2,en2⟩,h2,hf⟩:=zab.mp hf;cases hf;refine ⟨Ox,en,R,t1,en1,e,h1,fun x H1 R1 F1 P1 o1=>?_⟩;refine ⟨U F1 Ox,en1,R1,as2,en2,P1.env,h2,fun vs H2 R2 F2 P2 o2=>?_⟩;refine k (x :: vs) H2 R2 (U F1 F2) (P1.trans P2) ⟨x,vs,d,sh,F1,F2,rfl,rfl,fun _=>.inl,fun _=>.inr,fun b z1 z2=>P2.fx b z2 (.inl z1),Ow.over P1.env P2 o1,?_⟩;rw [<- ld];exact o2
def B9 (h:tFA K p ds ds2 (.inr i :: sh) (az i fa) σ H QA):gF (eZ i) (tFA K p ds ds2 sh fa) σ H QA:=by
 obtain ⟨Ox,en,R,as,en',e,hf,k⟩:=h;unfold az at hf;obtain ⟨t0,h0,hf⟩:=zaa.mp hf;obtain ⟨⟨as2,en2⟩,h2,hf⟩:=zab.mp hf;cases hf;have q:en[i]?=some (some t0):=by
  cases q:en[i]? with
  | none=>rw [q] at h0; cases h0
  | some o=>rw [q] at h0; exact congrArg some h0
 obtain ⟨v,d,h1,_⟩:=e.at_ i t0 q;exact ⟨v,h1,Ox,en,R,as2,en2,e,h2,fun vs H2 R2 F2 P2 o2=>k (v :: vs) H2 R2 F2 P2 ⟨v,vs,sh,rfl,rfl,h1,o2⟩⟩
def bD (c:Nat):Sh->Bool
 | []=>true
 | .inl d :: r=>decide (c<=d) && bD c r
 | .inr _ :: _=>false
def OwA.ows:∀ {as:List (D ⊕ Nat)} {sh:Sh} {vs:List V} {F:AS} {ts:List D} {c:Nat},bD c sh=true->vals as=some ts->OwA K O H σ as sh vs F ->
  ∃ F':AS,(∀ b,F' b->F b)/\∀ O':AS,(∀ a,O' a->O a)->(∀ a,F a->O' a->F' a)->Ows K O' H ts c vs F'
 | [],_,_,F,ts,c,_,hv,h=>by
  cases hv;exact ⟨F,fun _ z=>z,fun _ _ _=>h.2⟩
 | .inl t :: as,_,_,F,ts,c,hs,hv,h=>by
  obtain ⟨v,r,d,dr,F1,F2,e1,e2,s1,s2,s3,h1,h2⟩:=h;subst e1 e2;unfold vals at hv;obtain ⟨ts',hv',e⟩:=zab.mp hv;subst e;unfold bD at hs;rw [Bool.and_eq_true] at hs;obtain ⟨G1,a1,a2⟩:=Ow.cut t (of_decide_eq_true hs.1) h1;obtain ⟨G2,b1,b2⟩:=OwA.ows hs.2 hv' h2;refine ⟨fun b=>G1 b\/G2 b,fun b hb=>hb.elim (fun z=>s1 _ (a1 _ z)) fun z=>s2 _ (b1 _ z),fun O' ho hx=>⟨v,r,G1,G2,rfl,fun b=>.inl,fun b=>.inr,fun b z1 z2=>s3 b (a1 b z1) (b1 b z2),a2 O' ho fun b hb hz=>?_,b2 O' ho fun b hb hz=>?_⟩⟩
  ·exact (hx b (s1 b hb) hz).elim id fun z=>absurd (b1 b z) (s3 b hb)
  ·exact (hx b (s2 b hb) hz).elim (fun z=>absurd hb (s3 b (a1 b z))) id
 | .inr i :: as,_,_,F,ts,c,_,hv,_=>by cases hv
def OwA.len:∀ {as:List (D ⊕ Nat)} {sh:Sh} {vs:List V} {F:AS},OwA K O H σ as sh vs F->vs.length=as.length
 | [],_,_,_,h=>by rw [h.2]; rfl
 | .inl t :: as,_,_,_,h=>by
  obtain ⟨v,r,d,dr,F1,F2,e1,e2,s1,s2,s3,h1,h2⟩:=h;rw [e1,zac,zac,h2.len]
 | .inr i :: as,_,_,_,h=>by
  obtain ⟨v,r,dr,e1,e2,e3,h2⟩:=h;rw [e1,zac,zac,h2.len]
def j9:∀ {as:List (D ⊕ Nat)} {ts:List D},vals as=some ts->ts.length=as.length
 | [],_,h=>by cases h; rfl
 | .inl t :: as,_,h=>by
  unfold vals at h;obtain ⟨ts',hv',e⟩:=zab.mp h;subst e;rw [zac,zac,j9 hv']
 | .inr _ :: _,_,h=>by cases h
def og {g:List D->Option D} (hs:bD 0 sh=true) (h:tF K p ds ds1 d (eN g fa) σ H Q):tCB (rFn K g d) (tFA K p ds ds1 sh fa) σ H Q:=by
 obtain ⟨Ox,en,R,t,en',e,hf,k⟩:=h;unfold eN at hf;obtain ⟨⟨as,en1⟩,h1,hf⟩:=zaa.mp hf;obtain ⟨ts,h2,hf⟩:=zaa.mp hf;obtain ⟨t',h3,hf⟩:=zab.mp hf;cases hf;refine ⟨Ox,en,R,as,en1,e,h1,fun vs H1 R1 F P o=>?_⟩;obtain ⟨F',s1,s2⟩:=OwA.ows hs h2 o;have o2:Ows K (Own R1 Ox) H1 ts 0 vs F':=s2 _ (fun a z=>z.imp id .inr) fun a z z2=>by
  rcases z2 with ⟨i,z2⟩ | z2
  ·exact absurd (.inl z) (P.env.dx i a z2)
  ·exact absurd z2 (P.fx a z)
 exact ⟨Own R1 Ox,ts,t,Ows.any0 ts o2,P.doms,h3,fun v2 H2 F2 n o2=>k v2 H2 R1 F2 (P.fin n) (qZ ▸ o2)⟩
def Post.add {H1:Hp} {F G:AS} (P:Post K p ds' Ox σ H en R en' H1 R' F) (n:NewTo H1 H' G):Post K p ds' Ox σ H en R en' H' R' (U F G):=by
 have P2:Post K true ds' (U F Ox) σ H1 en' R' en' H' R' G:=Post.new P.env n.1 n.2
 have:=P.trans P2;rw [Bool.and_true] at this;exact this
def bB {l:Addr} {o:HO} (hl:H l=none):NewTo H (upd H l o) (fun b=>b=l):=by
 refine ⟨fun a u q=>?_,fun a z=>?_⟩
 ·rw [ay]
  ·exact q
  ·intro z;subst z;rw [hl] at q;cases q
 ·subst z;exact ⟨hl,_,aw⟩
def Hd {c:Nat} (hs:bD c sh=true) (hd:dn d=c) (hz:d≠0) (h:tF K p ds ds1 d (aO fa) σ H Q):Ef (tFA K p ds ds1 sh fa) σ H Q:=by
 obtain ⟨Ox,en,R,t,en',e,hf,k⟩:=h;unfold aO at hf;obtain ⟨⟨as,en1⟩,h1,hf⟩:=zaa.mp hf;obtain ⟨ts,h2,hf⟩:=zaa.mp hf;by_cases hlen:ts.length<=sizeLine
 case neg=>rw [if_neg hlen] at hf; cases hf
 rw [if_pos hlen] at hf;cases hf;refine ⟨Ox,en,R,as,en1,e,h1,fun vs H1 R1 F P o=>⟨?_,fun l hl=>?_⟩⟩
 ·rw [o.len,<- j9 h2]; exact hlen
 obtain ⟨F',s1,s2⟩:=OwA.ows hs h2 o;have o2:=s2 (Own R1 (U F' Ox)) (fun a z=>z.imp id fun z=>z.imp (s1 a) id) fun a z z2=>by
  rcases z2 with ⟨i,z2⟩ | z2 | z2
  ·exact absurd (.inl z) (P.env.dx i a z2)
  ·exact z2
  ·exact absurd z2 (P.fx a z)
 have P':=(P.less s1).add (bB (o:=.lst vs) hl);have nl:∀ a,F' a->a≠l:=fun a z z2=>by
  subst z2;obtain ⟨o',q⟩:=P.env.dom a (.inr (.inl (s1 a z)));rw [hl] at q;cases q
 refine k (.ref l) (upd H1 l (.lst vs)) R1 _ P' ⟨l,vs,rfl,.inr ⟨hz,aw,.inr rfl,F',fun b z=>⟨.inl z,nl b z⟩,?_⟩⟩;rw [hd];refine Ows.mv (G:=F') ⟨fun a o q _=>(bB (o:=.lst vs) hl).1 a o q,fun a z=>?_⟩ ts (fun _ z=>z) o2;rcases z with z | (z | z) | z
 ·exact .inl (.inl z)
 ·exact .inl (.inr (.inl z))
 ·exact .inr (by rw [show a=l from z]; exact hl)
 ·exact .inl (.inr (.inr z))
def G8 {c:Nat} (hs:bD c sh=true) (hd:dn d=c) (h:tF K p ds ds1 d (cR fa) σ H Q):tU (tFA K p ds ds1 sh fa) σ H Q:=by
 obtain ⟨Ox,en,R,t,en',e,hf,k⟩:=h;unfold cR at hf;obtain ⟨⟨as,en1⟩,h1,hf⟩:=zaa.mp hf;obtain ⟨ts,h2,hf⟩:=zaa.mp hf;by_cases hlen:ts.length<=sizeLine
 case neg=>rw [if_neg hlen] at hf; cases hf
 rw [if_pos hlen] at hf;cases hf;refine ⟨Ox,en,R,as,en1,e,h1,fun vs H1 R1 F P o=>⟨?_,fun l hl=>?_⟩⟩
 ·rw [o.len,<- j9 h2]; exact hlen
 obtain ⟨F',s1,s2⟩:=OwA.ows hs h2 o;have o2:=s2 (Own R1 (U F' Ox)) (fun a z=>z.imp id fun z=>z.imp (s1 a) id) fun a z z2=>by
  rcases z2 with ⟨i,z2⟩ | z2 | z2
  ·exact absurd (.inl z) (P.env.dx i a z2)
  ·exact z2
  ·exact absurd z2 (P.fx a z)
 have nl:∀ a,Own R1 (U F' Ox) a->a≠l:=fun a z z2=>by
  subst z2;obtain ⟨o',q⟩:=P.env.dom a (z.imp id fun z=>z.imp (s1 a) id);rw [hl] at q;cases q
 by_cases hz:d=0
 ·subst hz;have P':=(P.less s1).add (G:=NoA) (H':=upd H1 l (.tup vs)) ⟨(bB (o:=.tup vs) hl).1,fun _ z=>z.elim⟩;have eq:U F' NoA=F':=dq fun a=>⟨fun z=>z.elim id fun z=>z.elim,.inl⟩;rw [eq] at P';refine k (.ref l) (upd H1 l (.tup vs)) R1 _ P' ⟨l,vs,rfl,.inl ⟨rfl,⟨aw,fun z=>nl l z rfl⟩,?_⟩⟩;have hc:c=0:=hd.symm;subst hc;exact Ows.mv (G:=F') ⟨fun a o q _=>(bB (o:=.tup vs) hl).1 a o q,fun a z=>.inl z⟩ ts (fun _ z=>z) o2
 ·have P':=(P.less s1).add (bB (o:=.tup vs) hl);refine k (.ref l) (upd H1 l (.tup vs)) R1 _ P' ⟨l,vs,rfl,.inr ⟨hz,aw,.inr rfl,F',fun b z=>⟨.inl z,nl b (.inr (.inl z))⟩,?_⟩⟩;rw [hd];refine Ows.mv (G:=F') ⟨fun a o q _=>(bB (o:=.tup vs) hl).1 a o q,fun a z=>?_⟩ ts (fun _ z=>z) o2;rcases z with z | (z | z) | z
  ·exact .inl (.inl z)
  ·exact .inl (.inr (.inl z))
  ·exact .inr (by rw [show a=l from z]; exact hl)
  ·exact .inl (.inr (.inr z))
end
def spF (K:PySem.W.Frag) (dps:List Nat) (dr:Nat) (F:List D->Option (D × En)):Sp:=fun vs H Q _ =>
 ∃ Ox ts R r outs,EnvOk K dps Ox H (vs.map some) (ts.map some) R/\F ts=some (r,outs) /\
  ∀ v H' R' Fr,Post K false dps Ox (vs.map some) H (ts.map some) R outs H' R' Fr->Ow K (Own R' (U Fr Ox)) H' r dr v Fr->Q v H'
def cU:List (D ⊕ Nat)->En->Option (List D)
 | [],_=>some []
 | .inl t :: r,en=>(cU r en).map (t :: ·)
 | .inr i :: r,en=>(en[i]?).join.bind fun t=>(cU r en).map (t :: ·)
def wb:List (D ⊕ Nat)->En->En->En
 | .inr i :: r,o :: outs,en=>wb r outs (en.set i o)
 | .inl _ :: r,_ :: outs,en=>wb r outs en
 | _,_,en=>en
def am (F:List D->Option (D × En)) (fa:MA):ME:=fun en=>(fa en).bind fun r=>(cU r.1 r.2).bind fun ts=>(F ts).map fun q=>(q.1,wb r.1 q.2 r.2)
def ie:Sh->List Nat
 | []=>[]
 | .inl _ :: r=>ie r
 | .inr i :: r=>i :: ie r
def cr (ds:List Nat):Sh->List Nat->Bool
 | [],[]=>true
 | .inl d :: r,q :: s=>decide (d=q) && cr ds r s
 | .inr i :: r,q :: s=>decide (ds[i]?=some q) && (decide (i ∉ ie r) && cr ds r s)
 | _,_=>false
def gj:Sh->Bool
 | []=>true
 | .inl _ :: r=>gj r
 | .inr _ :: _=>false
section
variable {K:PySem.W.Frag} {p p1 p2:Bool} {ds ds0 ds1 ds2 ds' dps:List Nat} {Ox Ox' O O':AS} {H H':Hp} {σ:St} {en en' en1 en2:En} {R R':Nat->AS} {d d' d1 d2 dr:Nat} {t t1 t2:D} {Q:VK} {f f1 f2:ME} {fa:MA} {sh:Sh} {QA:List V->Hp->Prop} {i:Nat}
def OwA.parts:∀ {as:List (D ⊕ Nat)} {sh:Sh} {vs:List V} {F:AS},OwA K O H σ as sh vs F ->
  ∃ Rp:Nat->AS,(∀ (j:Nat) t,as[j]?=some (.inl t)->∃ v d,vs[j]?=some v/\sh[j]?=some (.inl d)/\Ow K O H t d v (Rp j))/\(∀ (j i:Nat),as[j]?=some (.inr i)->∃ v,vs[j]?=some v/\sh[j]?=some (.inr i)/\σ[i]?=some (some v)) /\
   (∀ j a,Rp j a->F a)/\(∀ j j' a,Rp j a->Rp j' a->j=j')
 | [],sh,vs,F,h=>⟨fun _=>NoA,fun j t z=>by simp at z,fun j i z=>by simp at z,fun _ _ z=>z.elim,fun _ _ _ z=>z.elim⟩
 | .inl t :: as,sh,vs,F,h=>by
  obtain ⟨v,r,d,dr,F1,F2,e1,e2,s1,s2,s3,h1,h2⟩:=h;subst e1 e2;obtain ⟨Rp,a1,a2,a3,a4⟩:=h2.parts;refine ⟨fun j=>match j with | 0=>F1 | j+1=>Rp j,fun j u hj=>?_,fun j i hj=>?_,fun j a z=>?_,fun j j' a z z'=>?_⟩
  ·cases j with
   | zero =>
    have:t=u:=by simpa using hj
    subst this;exact ⟨v,d,rfl,rfl,h1⟩
   | succ j=>exact a1 j u (by simpa using hj)
  ·cases j with
   | zero=>simp at hj
   | succ j=>exact a2 j i (by simpa using hj)
  ·cases j with
   | zero=>exact s1 a z
   | succ j=>exact s2 a (a3 j a z)
  ·cases j with
   | zero =>
    cases j' with
    | zero=>rfl
    | succ j'=>exact absurd (a3 j' a z') (s3 a z)
   | succ j =>
    cases j' with
    | zero=>exact absurd (a3 j a z) (s3 a z')
    | succ j'=>rw [a4 j j' a z z']
 | .inr i :: as,sh,vs,F,h=>by
  obtain ⟨v,r,dr,e1,e2,e3,h2⟩:=h;subst e1 e2;obtain ⟨Rp,a1,a2,a3,a4⟩:=h2.parts;refine ⟨fun j=>match j with | 0=>NoA | j+1=>Rp j,fun j u hj=>?_,fun j i' hj=>?_,fun j a z=>?_,fun j j' a z z'=>?_⟩
  ·cases j with
   | zero=>simp at hj
   | succ j=>exact a1 j u (by simpa using hj)
  ·cases j with
   | zero =>
    have:i=i':=by simpa using hj
    subst this;exact ⟨v,rfl,rfl,e3⟩
   | succ j=>exact a2 j i' (by simpa using hj)
  ·cases j with
   | zero=>exact z.elim
   | succ j=>exact a3 j a z
  ·cases j with
   | zero=>exact z.elim
   | succ j =>
    cases j' with
    | zero=>exact z'.elim
    | succ j'=>rw [a4 j j' a z z']
def iQ:∀ {as:List (D ⊕ Nat)} {en:En} {ts:List D},cU as en=some ts->ts.length=as.length/\∀ (j:Nat) t,ts[j]?=some t->as[j]?=some (.inl t)\/∃ i,as[j]?=some (.inr i)/\en[i]?=some (some t)
 | [],_,_,h=>by cases h; exact ⟨rfl,fun j t z=>by simp at z⟩
 | .inl t :: as,en,_,h=>by
  unfold cU at h;obtain ⟨ts',h',e⟩:=zab.mp h;subst e;obtain ⟨l,g⟩:=iQ h';refine ⟨by rw [zac,zac,l],fun j u z=>?_⟩;cases j with
  | zero=>simp at z; subst z; exact .inl rfl
  | succ j=>exact g j u (by simpa using z)
 | .inr i :: as,en,_,h=>by
  unfold cU at h;obtain ⟨t,ht,h⟩:=zaa.mp h;obtain ⟨ts',h',e⟩:=zab.mp h;subst e;obtain ⟨l,g⟩:=iQ h';refine ⟨by rw [zac,zac,l],fun j u z=>?_⟩;cases j with
  | zero =>
   simp at z;subst z;refine .inr ⟨i,rfl,?_⟩;cases q:en[i]? with
   | none=>rw [q] at ht; cases ht
   | some o=>rw [q] at ht; exact congrArg some ht
  | succ j=>exact g j u (by simpa using z)
def gR:∀ {sh:Sh} {dps:List Nat},cr ds sh dps=true->sh.length=dps.length/\(∀ (j d:Nat),sh[j]?=some (.inl d)->dps[j]?=some d)/\(∀ (j i:Nat),sh[j]?=some (.inr i)->∃ q,dps[j]?=some q/\ds[i]?=some q) /\
   (∀ (j j' i:Nat),sh[j]?=some (.inr i)->sh[j']?=some (.inr i)->j=j')
 | [],[],_=>⟨rfl,fun j d z=>by simp at z,fun j d z=>by simp at z,fun j j' d z=>by simp at z⟩
 | .inl d :: r,q :: s,h=>by
  unfold cr at h;rw [Bool.and_eq_true] at h;obtain ⟨h1,h2⟩:=h;have h1':=of_decide_eq_true h1;subst h1';obtain ⟨l,a,b,c⟩:=gR h2;refine ⟨by rw [zac,zac,l],fun j u z=>?_,fun j i z=>?_,fun j j' i z z'=>?_⟩
  ·cases j with
   | zero=>simp at z; subst z; rfl
   | succ j=>exact a j u (by simpa using z)
  ·cases j with
   | zero=>simp at z
   | succ j=>exact b j i (by simpa using z)
  ·cases j with
   | zero=>simp at z
   | succ j =>
    cases j' with
    | zero=>simp at z'
    | succ j'=>rw [c j j' i (by simpa using z) (by simpa using z')]
 | .inr i0 :: r,q :: s,h=>by
  unfold cr at h;rw [Bool.and_eq_true,Bool.and_eq_true] at h;obtain ⟨h1,h2,h3⟩:=h;have h1':=of_decide_eq_true h1;have h2':=of_decide_eq_true h2;obtain ⟨l,a,b,c⟩:=gR h3;have mem:∀ {r:Sh} {j i:Nat},r[j]?=some (.inr i)->i∈ie r:=fun {r}=>by
   induction r with
   | nil=>intro j i z; simp at z
   | cons x r ih =>
    intro j i z;cases j with
    | zero =>
     simp at z;subst z;unfold ie;exact zaq
    | succ j =>
     have:=ih (j:=j) (i:=i) (by simpa using z);cases x with
     | inl _=>exact this
     | inr _=>exact zaj _ this
  refine ⟨by rw [zac,zac,l],fun j u z=>?_,fun j i z=>?_,fun j j' i z z'=>?_⟩
  ·cases j with
   | zero=>simp at z
   | succ j=>exact a j u (by simpa using z)
  ·cases j with
   | zero=>simp at z; subst z; exact ⟨q,rfl,h1'⟩
   | succ j=>exact b j i (by simpa using z)
  ·cases j with
   | zero =>
    simp at z;subst z;cases j' with
    | zero=>rfl
    | succ j'=>exact absurd (mem (by simpa using z')) h2'
   | succ j =>
    cases j' with
    | zero =>
     simp at z';subst z';exact absurd (mem (by simpa using z)) h2'
    | succ j'=>rw [c j j' i (by simpa using z) (by simpa using z')]
 | [],_ :: _,h=>nomatch h
 | .inl _ :: _,[],h=>nomatch h
 | .inr _ :: _,[],h=>nomatch h
def kw:∀ (as:List (D ⊕ Nat)) (outs en:En),(wb as outs en).length=en.length
 | [],_,_=>by unfold wb; rfl
 | .inl _ :: as,[],_=>by unfold wb; rfl
 | .inr _ :: as,[],_=>by unfold wb; rfl
 | .inl _ :: as,o :: outs,en=>by unfold wb; exact kw as outs en
 | .inr i :: as,o :: outs,en=>by unfold wb; rw [kw as outs _,zaV]
def gh:∀ (as:List (D ⊕ Nat)) (outs en:En) (i:Nat),(∀ j:Nat,as[j]?≠some (.inr i))->(wb as outs en)[i]?=en[i]?
 | [],_,_,_,_=>by unfold wb; rfl
 | .inl _ :: as,[],_,_,_=>by unfold wb; rfl
 | .inr _ :: as,[],_,_,_=>by unfold wb; rfl
 | .inl _ :: as,o :: outs,en,i,h=>by unfold wb; exact gh as outs en i fun j=>h (j+1)
 | .inr k :: as,o :: outs,en,i,h=>by
  unfold wb;rw [gh as outs _ i fun j=>h (j+1),zaO];intro e;subst e;exact h 0 rfl
def mS:∀ (as:List (D ⊕ Nat)) (outs en:En) (i j:Nat),as[j]?=some (.inr i)->(∀ j':Nat,as[j']?=some (.inr i)->j'=j)->outs.length=as.length->i < en.length->(wb as outs en)[i]?=outs[j]?
 | [],_,_,_,_,h,_,_,_=>by simp at h
 | .inl _ :: as,[],_,_,_,_,_,h,_=>by simp at h
 | .inr _ :: as,[],_,_,_,_,_,h,_=>by simp at h
 | .inl _ :: as,o :: outs,en,i,j,h,u,l,b=>by
  unfold wb;cases j with
  | zero=>simp at h
  | succ j=>exact mS as outs en i j (by simpa using h) (fun j' z=>by have:=u (j'+1) (by simpa using z); omega) (by simpa using l) b
 | .inr k :: as,o :: outs,en,i,j,h,u,l,b=>by
  unfold wb;cases j with
  | zero =>
   have e:k=i:=by simpa using h
   subst e;rw [gh as outs _ k fun j' z=>by have:=u (j'+1) (by simpa using z); omega];rw [zaP b];rfl
  | succ j=>exact mS as outs _ i j (by simpa using h) (fun j' z=>by have:=u (j'+1) (by simpa using z); omega) (by simpa using l) (by rw [zaV]; exact b)
def OwA.shl:∀ {as:List (D ⊕ Nat)} {sh:Sh} {vs:List V} {F:AS},OwA K O H σ as sh vs F->sh.length=as.length
 | [],_,_,_,h=>by rw [h.1]; rfl
 | .inl t :: as,_,_,_,h=>by
  obtain ⟨v,r,d,dr,F1,F2,e1,e2,s1,s2,s3,h1,h2⟩:=h;rw [e2,zac,zac,h2.shl]
 | .inr i :: as,_,_,_,h=>by
  obtain ⟨v,r,dr,e1,e2,e3,h2⟩:=h;rw [e2,zac,zac,h2.shl]
def kE:∀ {sh:Sh},gj sh=true->∀ (j i:Nat),sh[j]?≠some (.inr i)
 | [],_,j,i,z=>by simp at z
 | .inl _ :: r,h,j,i,z=>by
  cases j with
  | zero=>simp at z
  | succ j=>exact kE (sh:=r) h j i (by simpa using z)
 | .inr _ :: r,h,_,_,_=>nomatch h
def FY {E:XK} {F:List D->Option (D × En)} (hc:cr ds1 sh dps=true) (h:tF K (p && gj sh) ds ds1 dr (am F fa) σ H Q):mT (spF K dps dr F) [] E (tFA K p ds ds1 sh fa) σ H Q:=by
 obtain ⟨Ox,en,R,t,en',e,hf,k⟩:=h;unfold am at hf;obtain ⟨⟨as,en1⟩,h1,hf⟩:=zaa.mp hf;obtain ⟨ts,h2,hf⟩:=zaa.mp hf;obtain ⟨⟨r,outs⟩,h3,hf⟩:=zab.mp hf;cases hf;refine ⟨Ox,en,R,as,en1,e,h1,fun vs H1 R1 F0 P o=>?_⟩;obtain ⟨cl,c1,c2,c3⟩:=gR hc;obtain ⟨Rp,a1,a2,a3,a4⟩:=o.parts;obtain ⟨tl,tg⟩:=iQ h2;have ol:=o.len;have asl:∀ (j i:Nat),as[j]?=some (.inr i)->sh[j]?=some (.inr i):=fun j i z=>(a2 j i z).choose_spec.2.1;have asr:∀ (j i:Nat),sh[j]?=some (.inr i)->as[j]?=some (.inr i):=fun j i z=>by
  cases q:as[j]? with
  | none =>
   have e1:as.length<=j:=List.getElem?_eq_none_iff.mp q;have e2:j < sh.length:=(zah.mp z).1
   have:=o.shl;omega
  | some x =>
   cases x with
   | inl t =>
    obtain ⟨_,_,_,e2,_⟩:=a1 j t q;rw [z] at e2; cases e2
   | inr i' =>
    have:=asl j i' q;rw [z] at this;cases this;rfl
 let Rq:Nat->AS:=fun j=>match sh[j]? with | some (.inr i)=>R1 i | _=>Rp j
 have rq1:∀ j i:Nat,sh[j]?=some (.inr i)->Rq j=R1 i:=fun j i z=>by show (match sh[j]? with | some (.inr i)=>R1 i | _=>Rp j)=R1 i; rw [z]
 have rq2:∀ j:Nat,(∀ i:Nat,sh[j]?≠some (.inr i))->Rq j=Rp j:=fun j z=>by
  show (match sh[j]? with | some (.inr i)=>R1 i | _=>Rp j)=Rp j;split
  ·next i q=>exact absurd q (z i)
  ·rfl
 have rqc:∀ (j:Nat) a,Rq j a->(∃ i,sh[j]?=some (.inr i)/\R1 i a)\/Rp j a:=fun j a z=>by
  by_cases q:∃ i,sh[j]?=some (.inr i)
  ·obtain ⟨i,q⟩:=q;rw [rq1 j i q] at z;exact .inl ⟨i,q,z⟩
  ·rw [rq2 j fun i z=>q ⟨i,z⟩] at z;exact .inr z
 let Oxp:AS:=fun a=>Ox a\/∃ i,R1 i a/\∀ j:Nat,sh[j]?≠some (.inr i);have sub:∀ a,Own Rq Oxp a->Own R1 (U F0 Ox) a:=fun a z=>by
  rcases z with ⟨j,z⟩ | z | ⟨i,z,_⟩
  ·rcases rqc j a z with ⟨i,_,z⟩ | z
   ·exact .inl ⟨i,z⟩
   ·exact .inr (.inl (a3 j a z))
  ·exact .inr (.inr z)
  ·exact .inl ⟨i,z⟩
 have ec:EnvOk K dps Oxp H1 (vs.map some) (ts.map some) Rq:=by
  refine ⟨fun j u hu=>?_,fun j j' a z z'=>?_,fun j a z z2=>?_,fun a z=>P.env.dom a (sub a z),by rw [zad,zad,tl,ol],?_⟩
  ·rw [zao] at hu;obtain ⟨u',hu,eu⟩:=zab.mp hu;cases eu;rcases tg j u hu with q | ⟨i,q,qe⟩
   ·obtain ⟨v,d,b1,b2,b3⟩:=a1 j u q;refine ⟨v,d,by rw [zao,b1]; rfl,c1 j d b2,?_⟩;rw [rq2 j fun i z=>by rw [b2] at z; cases z];exact Ow.grow sub u (fun _ z=>z) b3
   ·obtain ⟨v,b1,b2,b3⟩:=a2 j i q;obtain ⟨v',d,g1,g2,g3⟩:=P.env.at_ i u qe;rw [b3] at g1;cases g1;obtain ⟨qd,q1,q2⟩:=c2 j i b2;rw [g2] at q2;cases q2;refine ⟨v,d,by rw [zao,b1]; rfl,q1,?_⟩;rw [rq1 j i b2];exact Ow.grow sub u (fun _ z=>z) g3
  ·rcases rqc j a z with ⟨i,q,z⟩ | z <;> rcases rqc j' a z' with ⟨i',q',z'⟩ | z'
   ·have:=P.env.dj i i' a z z';subst this;exact c3 j j' i q q'
   ·exact absurd (.inl (a3 j' a z')) (P.env.dx i a z)
   ·exact absurd (.inl (a3 j a z)) (P.env.dx i' a z')
   ·exact a4 j j' a z z'
  ·rcases rqc j a z with ⟨i,q,z⟩ | z
   ·rcases z2 with z2 | ⟨i',z2,n⟩
    ·exact P.env.dx i a z (.inr z2)
    ·have:=P.env.dj i i' a z z2;subst this;exact n j q
   ·rcases z2 with z2 | ⟨i',z2,n⟩
    ·exact P.fx a (a3 j a z) z2
    ·exact P.env.dx i' a z2 (.inl (a3 j a z))
  ·have:=o.shl;rw [zad];omega
 rw [List.append_nil];refine ⟨Oxp,ts,Rq,r,outs,ec,h3,fun v H2 R2 Fr Pc oc=>?_⟩;have outl:outs.length=as.length:=by rw [Pc.env.l1,zad]; exact ol
 classical
 let R3:Nat->AS:=fun i=>if q:∃ j:Nat,sh[j]?=some (.inr i) then R2 q.choose else R1 i
 have r31:∀ (i j:Nat),sh[j]?=some (.inr i)->R3 i=R2 j:=fun i j z=>by
  have q:∃ j:Nat,sh[j]?=some (.inr i):=⟨j,z⟩
  have:q.choose=j:=c3 _ _ i q.choose_spec z;show (if q:∃ j:Nat,sh[j]?=some (.inr i) then R2 q.choose else R1 i)=R2 j;rw [dif_pos q,this]
 have r32:∀ i:Nat,(∀ j:Nat,sh[j]?≠some (.inr i))->R3 i=R1 i:=fun i z=>by
  show (if q:∃ j:Nat,sh[j]?=some (.inr i) then R2 q.choose else R1 i)=R1 i;rw [dif_neg fun ⟨j,q⟩=>z j q]
 have r3c:∀ (i:Nat) a,R3 i a->(∃ j:Nat,sh[j]?=some (.inr i)/\R2 j a)\/((∀ j:Nat,sh[j]?≠some (.inr i))/\R1 i a):=fun i a z=>by
  by_cases q:∃ j:Nat,sh[j]?=some (.inr i)
  ·obtain ⟨j,q⟩:=q;rw [r31 i j q] at z;exact .inl ⟨j,q,z⟩
  ·rw [r32 i fun j z=>q ⟨j,z⟩] at z;exact .inr ⟨fun j z=>q ⟨j,z⟩,z⟩
 have sub3:∀ a,Own R3 (U Fr Ox) a->Own R2 (U Fr Oxp) a:=fun a z=>by
  rcases z with ⟨i,z⟩ | z | z
  ·rcases r3c i a z with ⟨j,_,z⟩ | ⟨n,z⟩
   ·exact .inl ⟨j,z⟩
   ·exact .inr (.inr (.inr ⟨i,z,n⟩))
  ·exact .inr (.inl z)
  ·exact .inr (.inr (.inl z))
 have back:∀ a,(Fr a\/∃ j,R2 j a)->Own R1 (U F0 Ox) a\/H1 a=none:=fun a z=>by
  rcases Pc.own a z with ⟨j,z⟩ | z
  ·exact .inl (sub a (.inl ⟨j,z⟩))
  ·exact .inr z
 have back2:∀ a,(Fr a\/∃ j,R2 j a)->(F0 a\/∃ i,R1 i a)\/H1 a=none:=fun a z=>by
  rcases Pc.own a z with ⟨j,z⟩ | z
  ·rcases rqc j a z with ⟨i,_,z⟩ | z
   ·exact .inl (.inr ⟨i,z⟩)
   ·exact .inl (.inl (a3 j a z))
  ·exact .inr z
 have n1:∀ a,H1 a=none->H a=none:=fun a z=>by
  cases q:H a with
  | none=>rfl
  | some o =>
   obtain ⟨o',q'⟩:=P.dom a o q;rw [z] at q';cases q'
 have rqsub:∀ j a,Rq j a->Own R1 (U F0 Ox) a:=fun j a z=>sub a (.inl ⟨j,z⟩);have env3:EnvOk K ds1 (U Fr Ox) H2 σ (wb as outs en1) R3:=by
  refine ⟨fun i u hu=>?_,fun i i' a z z'=>?_,fun i a z z2=>?_,fun a z=>Pc.env.dom a (sub3 a z),by rw [kw]; exact P.env.l1,P.env.l2⟩
  ·by_cases q:∃ j:Nat,as[j]?=some (.inr i)
   ·obtain ⟨j,q⟩:=q;obtain ⟨v,b1,b2,b3⟩:=a2 j i q;have hil:i < en1.length:=by rw [P.env.l1]; exact (zah.mp b3).1
    rw [mS as outs en1 i j q (fun j' z=>c3 j' j i (asl j' i z) b2) outl hil] at hu;obtain ⟨v',d,g1,g2,g3⟩:=Pc.env.at_ j u hu;rw [zao,b1] at g1;cases g1;obtain ⟨qd,q1,q2⟩:=c2 j i b2;rw [g2] at q1;cases q1;refine ⟨v,d,b3,q2,?_⟩;rw [r31 i j b2];exact Ow.grow sub3 u (fun _ z=>z) g3
   ·rw [gh as outs en1 i fun j z=>q ⟨j,z⟩] at hu;have ns:∀ j:Nat,sh[j]?≠some (.inr i):=fun j z=>q ⟨j,asr j i z⟩;obtain ⟨v,d,g1,g2,g3⟩:=P.env.at_ i u hu;refine ⟨v,d,g1,g2,?_⟩;rw [r32 i ns];refine Ow.mv (G:=R1 i) ⟨fun a o q z=>Pc.keep a o q fun j zj=>?_,fun a z=>?_⟩ u (fun _ z=>z) g3
    ·rcases z with z | z
     ·exact z (rqsub j a zj)
     ·rcases rqc j a zj with ⟨i',q',z'⟩ | z'
      ·have:=P.env.dj i i' a z z';subst this;exact ns j q'
      ·exact P.env.dx i a z (.inl (a3 j a z'))
    ·rcases z with ⟨i',z⟩ | z | z
     ·rcases r3c i' a z with ⟨j,_,z⟩ | ⟨n,z⟩
      ·exact back a (.inr ⟨j,z⟩)
      ·exact .inl (.inl ⟨i',z⟩)
     ·exact back a (.inl z)
     ·exact .inl (.inr (.inr z))
  ·rcases r3c i a z with ⟨j,q,z⟩ | ⟨n,z⟩ <;> rcases r3c i' a z' with ⟨j',q',z'⟩ | ⟨n',z'⟩
   ·have:=Pc.env.dj j j' a z z';subst this;rw [q] at q';cases q';rfl
   ·exact absurd (.inr (.inr ⟨i',z',n'⟩)) (Pc.env.dx j a z)
   ·exact absurd (.inr (.inr ⟨i,z,n⟩)) (Pc.env.dx j' a z')
   ·exact P.env.dj i i' a z z'
  ·rcases r3c i a z with ⟨j,q,z⟩ | ⟨n,z⟩
   ·exact Pc.env.dx j a z (z2.imp id .inl)
   ·rcases z2 with z2 | z2
    ·exact Pc.fx a z2 (.inr ⟨i,z,n⟩)
    ·exact P.env.dx i a z (.inr z2)
 refine k v H2 R3 Fr ⟨env3,fun a z z2=>Pc.fx a z (.inl z2),fun a o q n=>?_,fun a z=>?_,fun a o q=>?_,fun hp=>?_⟩ (Ow.grow sub3 r (fun _ z=>z) oc)
 ·refine Pc.keep a o (P.keep a o q n) fun j z=>?_;have nn:∀ i,¬ R1 i a:=fun i z=>by
   rcases P.own a (.inr ⟨i,z⟩) with ⟨i',z⟩ | z
   ·exact n i' z
   ·rw [q] at z; cases z
  rcases rqc j a z with ⟨i,_,z⟩ | z
  ·exact nn i z
  ·rcases P.own a (.inl (a3 j a z)) with ⟨i',z⟩ | z
   ·exact n i' z
   ·rw [q] at z; cases z
 ·have:(F0 a\/∃ i,R1 i a)\/H1 a=none:=by
   rcases z with z | ⟨i,z⟩
   ·exact back2 a (.inl z)
   ·rcases r3c i a z with ⟨j,_,z⟩ | ⟨n,z⟩
    ·exact back2 a (.inr ⟨j,z⟩)
    ·exact .inl (.inr ⟨i,z⟩)
  rcases this with z | z
  ·exact P.own a z
  ·exact .inr (n1 a z)
 ·obtain ⟨o',q'⟩:=P.dom a o q;exact Pc.dom a o' q'
 ·obtain ⟨hp1,hp2⟩:=(Bool.and_eq_true _ _ ▸ hp:p=true/\gj sh=true);obtain ⟨b1,b2,b3⟩:=P.pure hp1;have ns:=kE hp2;refine ⟨?_,?_,fun a o q=>?_⟩
  ·show wb as outs en1=en;rw [<- b1];refine List.ext_getElem? fun i=>?_;exact gh as outs en1 i fun j z=>ns j i (asl j i z)
  ·rw [<- b2]
   funext i
   exact r32 i fun j=>ns j i
  ·refine Pc.keep a o (b3 a o q) fun j z=>?_;rcases rqc j a z with ⟨i,z,_⟩ | z
   ·exact ns j i z
   ·have zf:=a3 j a z;rcases P.own a (.inl zf) with ⟨i,z2⟩ | z2
    ·rw [<- b2] at z2;exact P.env.dx i a z2 (.inl zf)
    ·rw [q] at z2; cases z2
end
inductive Fl where
 | nx (en:En) | rt (t:D) (en:En) | ct (en:En)
abbrev MS:=En->Option Fl
structure Jd where
 lk:List Nat
 dsr:List Nat
 dr:Nat
 dsl:List Nat
structure PostS (K:PySem.W.Frag) (lk:List Nat) (ds':List Nat) (Ox:AS) (σ:St) (H:Hp) (R:Nat->AS) (σ':St) (en':En) (H':Hp) (R':Nat->AS) (F:AS):Prop where
 env:EnvOk K ds' (U F Ox) H' σ' en' R'
 fx:∀ a,F a->¬ Ox a
 keep:∀ a o,H a=some o->(∀ i,¬ R i a)->H' a=some o
 own:∀ a,(F a\/∃ i,R' i a)->(∃ i,R i a)\/H a=none
 dom:∀ a o,H a=some o->∃ o',H' a=some o'
 lk:∀ j∈lk,σ'[j]?=σ[j]?
def tFS (K:PySem.W.Frag) (J:Jd) (ds ds':List Nat) (f:MS):TS:=fun D σ H =>
 ∃ Ox en R fl,EnvOk K ds Ox H σ en R/\f en=some fl/\match fl with
  | .nx en'=>∀ σ' H' R',PostS K J.lk ds' Ox σ H R σ' en' H' R' NoA->D.nx σ' H'
  | .ct en'=>∀ σ' H' R',PostS K J.lk J.dsl Ox σ H R σ' en' H' R' NoA->D.ct σ' H'
  | .rt t en'=>∀ v σ' H' R' F,PostS K J.lk J.dsr Ox σ H R σ' en' H' R' F->Ow K (Own R' (U F Ox)) H' t J.dr v F->D.rt v H'
def aj (f g:MS):MS:=fun en=>(f en).bind fun fl=>match fl with
 | .nx en1=>g en1
 | .rt t en1=>some (.rt t en1)
 | .ct en1=>some (.ct en1)
def aq (i:Nat) (f:ME):MS:=fun en=>(f en).map fun r=>.nx (r.2.set i (some r.1))
def bh (f:ME):MS:=fun en=>(f en).map fun r=>.nx r.2
def aI (f:ME):MS:=fun en=>(f en).map fun r=>.rt r.1 r.2
def Ie:MS:=fun en=>some (.rt .none en)
def aW:MS:=fun en=>some (.nx en)
def Ig:MS:=fun en=>some (.ct en)
def HW:MS:=fun _=>none
def sIf (c:MT) (f g:MS):MS:=fun en=>(c en).bind fun r=>if r.1 then f r.2 else g r.2
section
variable {K:PySem.W.Frag} {p p1 p2:Bool} {J:Jd} {lk:List Nat} {ds ds0 ds1 ds2 ds':List Nat} {Ox Ox' O O':AS} {H H':Hp} {σ σ':St} {en en' en1 en2:En} {R R':Nat->AS} {d d' d1 d2 dr:Nat} {t t1 t2:D} {f f1 f2:ME} {c:MT} {m m1 m2:MS} {i:Nat} {D:Ends}
def PostS.refl (e:EnvOk K ds Ox H σ en R):PostS K lk ds Ox σ H R σ en H R NoA :=
 ⟨by rw [gy]; exact e,fun _ z=>z.elim,fun _ _ q _=>q,fun a z=>z.elim (fun z=>z.elim) .inl,fun a o q=>⟨o,q⟩,fun _ _=>rfl⟩
def PostS.env0 {F:AS} (P:PostS K lk ds' Ox σ H R σ' en' H' R' F):EnvOk K ds' Ox H' σ' en' R':=P.env.fewer fun a z=>.inr z
def PostS.less {F F':AS} (P:PostS K lk ds' Ox σ H R σ' en' H' R' F) (h:∀ a,F' a->F a):PostS K lk ds' Ox σ H R σ' en' H' R' F' :=
 ⟨P.env.fewer fun a z=>z.imp (h a) id,fun a z=>P.fx a (h a z),P.keep,fun a z=>P.own a (z.imp (h a) id),P.dom,P.lk⟩
def PostS.after {σ1 σ2:St} {H1:Hp} {R1 R2:Nat->AS} {F:AS} (P1:PostS K lk ds1 Ox σ H R σ1 en1 H1 R1 NoA) (P2:PostS K lk ds2 Ox σ1 H1 R1 σ2 en2 H' R2 F):PostS K lk ds2 Ox σ H R σ2 en2 H' R2 F:=by
 have n1:∀ a,H1 a=none->H a=none:=fun a z=>by
  cases q:H a with
  | none=>rfl
  | some o =>
   obtain ⟨o',q'⟩:=P1.dom a o q;rw [z] at q';cases q'
 refine ⟨P2.env,P2.fx,fun a o q n=>?_,fun a z=>?_,fun a o q=>?_,fun j hj=>(P2.lk j hj).trans (P1.lk j hj)⟩
 ·refine P2.keep a o (P1.keep a o q n) fun i z=>?_;rcases P1.own a (.inr ⟨i,z⟩) with ⟨j,z⟩ | z
  ·exact n j z
  ·rw [q] at z; cases z
 ·rcases P2.own a z with z | z
  ·exact P1.own a (.inr z)
  ·exact .inr (n1 a z)
 ·obtain ⟨o',q'⟩:=P1.dom a o q;exact P2.dom a o' q'
def Post.s {F:AS} (P:Post K p ds' Ox σ H en R en' H' R' F):PostS K lk ds' Ox σ H R σ en' H' R' F:=⟨P.env,P.fx,P.keep,P.own,P.dom,fun _ _=>rfl⟩
def PostS.cut {F:AS} (P:PostS K lk ds1 Ox σ H R σ' en' H' R' F) (hd:leD ds2 ds1=true):∃ R2,(∀ i a,R2 i a->R' i a)/\PostS K lk ds2 Ox σ H R σ' en' H' R2 F:=by
 obtain ⟨R2,s1,e2⟩:=P.env.cut (dg hd).1 (dg hd).2;exact ⟨R2,s1,e2,P.fx,P.keep,fun a z=>P.own a (z.imp id fun ⟨i,z⟩=>⟨i,s1 i a z⟩),P.dom,P.lk⟩
def Fp (h:tFS K J ds ds aW D σ H):Ai D σ H:=by
 obtain ⟨Ox,en,R,fl,e,hf,k⟩:=h;cases hf;exact k σ H R (PostS.refl e)
def Fm (h:tFS K J ds ds2 (aj m1 m2) D σ H):Eb (tFS K J ds ds1 m1) (tFS K J ds1 ds2 m2) D σ H:=by
 obtain ⟨Ox,en,R,fl,e,hf,k⟩:=h;unfold aj at hf;obtain ⟨fl1,h1,hf⟩:=zaa.mp hf;refine ⟨Ox,en,R,fl1,e,h1,?_⟩;cases fl1 with
 | nx en1 =>
  intro σ1 H1 R1 P1;refine ⟨Ox,en1,R1,fl,P1.env0,hf,?_⟩;cases fl with
  | nx en2=>exact fun σ2 H2 R2 P2=>k σ2 H2 R2 (P1.after P2)
  | ct en2=>exact fun σ2 H2 R2 P2=>k σ2 H2 R2 (P1.after P2)
  | rt t en2=>exact fun v σ2 H2 R2 F P2 o=>k v σ2 H2 R2 F (P1.after P2) o
 | ct en1=>cases hf; exact k
 | rt t en1=>cases hf; exact k
def sG (hd:leD ds1 ds2=true) (h:tFS K J ds ds1 m D σ H):tFS K J ds ds2 m D σ H:=by
 obtain ⟨Ox,en,R,fl,e,hf,k⟩:=h;refine ⟨Ox,en,R,fl,e,hf,?_⟩;cases fl with
 | nx en2 =>
  intro σ2 H2 R2 P2;obtain ⟨R3,_,P3⟩:=P2.cut hd;exact k σ2 H2 R3 P3
 | ct en2=>exact k
 | rt t en2=>exact k
def Fs (h:tFS K J ds ds1 (bh f) D σ H):Aj (tF K p ds ds1 d f) D σ H:=by
 obtain ⟨Ox,en,R,fl,e,hf,k⟩:=h;unfold bh at hf;obtain ⟨⟨t,en1⟩,h1,hf⟩:=zab.mp hf;cases hf;exact ⟨Ox,en,R,t,en1,e,h1,fun v H1 R1 F P o=>k σ H1 R1 (P.s.less fun _ z=>z.elim)⟩
def Fo (hd:leD J.dsr ds1=true) (h:tFS K J ds ds' (aI f) D σ H):Ec (tF K p ds ds1 J.dr f) D σ H:=by
 obtain ⟨Ox,en,R,fl,e,hf,k⟩:=h;unfold aI at hf;obtain ⟨⟨t,en1⟩,h1,hf⟩:=zab.mp hf;cases hf;refine ⟨Ox,en,R,t,en1,e,h1,fun v H1 R1 F P o=>?_⟩;obtain ⟨R2,s1,P2⟩:=(P.s (lk:=J.lk)).cut hd;exact k v σ H1 R2 F P2 (Ow.grow (fun a z=>z.imp (fun ⟨i,z⟩=>⟨i,s1 i a z⟩) id) t (fun _ z=>z) o)
def GQ (h:tFS K J ds ds2 (sIf c m1 m2) D σ H):Eh (tFT K p ds ds1 c) (tFS K J ds1 ds2 m1) (tFS K J ds1 ds2 m2) D σ H:=by
 obtain ⟨Ox,en,R,fl,e,hf,k⟩:=h;unfold sIf at hf;obtain ⟨⟨b,en1⟩,h1,hf⟩:=zaa.mp hf;refine ⟨Ox,en,R,b,en1,e,h1,fun H1 R1 P1=>?_⟩;have fin:∀ m,m en1=some fl->tFS K J ds1 ds2 m D σ H1:=fun m hm=>by
  refine ⟨Ox,en1,R1,fl,P1.env0,hm,?_⟩;cases fl with
  | nx en2=>exact fun σ2 H2 R2 P2=>k σ2 H2 R2 (P1.s.after P2)
  | ct en2=>exact fun σ2 H2 R2 P2=>k σ2 H2 R2 (P1.s.after P2)
  | rt t en2=>exact fun v σ2 H2 R2 F P2 o=>k v σ2 H2 R2 F (P1.s.after P2) o
 cases b with
 | true=>exact fin m1 hf
 | false=>exact fin m2 hf
def PostS.store {F:AS} {v:V} (P:Post K p ds1 Ox σ H en R en1 H' R' F) (o:Ow K (Own R' (U F Ox)) H' t d v F) (hi:i < ds1.length) (hl:i ∉ lk) :
  PostS K lk (ds1.set i d) Ox σ H R (σ.set i (some v)) (en1.set i (some t)) H' (fun j=>if j=i then F else R' j) NoA:=by
 have l1:=P.env.l1;have l2:=P.env.l2;have sub:∀ a,Own (fun j=>if j=i then F else R' j) Ox a->Own R' (U F Ox) a:=fun a z=>by
  rcases z with ⟨j,z⟩ | z
  ·by_cases hj:j=i
   ·rw [if_pos hj] at z; exact .inr (.inl z)
   ·rw [if_neg hj] at z; exact .inl ⟨j,z⟩
  ·exact .inr (.inr z)
 refine ⟨?_,fun _ z=>z.elim,P.keep,fun a z=>?_,P.dom,fun j hj=>?_⟩
 ·rw [gy];refine ⟨fun j u hu=>?_,fun j j' a z z'=>?_,fun j a z z2=>?_,fun a z=>P.env.dom a (sub a z),by rw [zaV,zaV]; exact l1,by rw [zaV,zaV]; exact l2⟩
  ·by_cases hj:j=i
   ·subst hj;rw [zaP (by omega)] at hu;cases hu;refine ⟨v,d,zaP (by omega),zaP hi,?_⟩;rw [if_pos rfl];exact Ow.grow sub t (fun _ z=>z) o
   ·rw [zaO (Ne.symm hj)] at hu;obtain ⟨v',d',g1,g2,g3⟩:=P.env.at_ j u hu;refine ⟨v',d',by rw [zaO (Ne.symm hj)]; exact g1,by rw [zaO (Ne.symm hj)]; exact g2,?_⟩;rw [if_neg hj];exact Ow.grow sub u (fun _ z=>z) g3
  ·by_cases hj:j=i <;> by_cases hj':j'=i
   ·rw [hj,hj']
   ·rw [if_pos hj] at z; rw [if_neg hj'] at z';exact absurd (.inl z) (P.env.dx j' a z')
   ·rw [if_neg hj] at z; rw [if_pos hj'] at z';exact absurd (.inl z') (P.env.dx j a z)
   ·rw [if_neg hj] at z; rw [if_neg hj'] at z';exact P.env.dj j j' a z z'
  ·by_cases hj:j=i
   ·rw [if_pos hj] at z;exact P.fx a z z2
   ·rw [if_neg hj] at z;exact P.env.dx j a z (.inr z2)
 ·rcases z with z | ⟨j,z⟩
  ·exact z.elim
  ·by_cases hj:j=i
   ·rw [if_pos hj] at z; exact P.own a (.inl z)
   ·rw [if_neg hj] at z; exact P.own a (.inr ⟨j,z⟩)
 ·rw [zaO];intro z;subst z;exact hl hj
def sH (hi:i < ds1.length) (hl:i ∉ J.lk) (h:tFS K J ds (ds1.set i d) (aq i f) D σ H):lB (tF K p ds ds1 d f) (kR i) D σ H:=by
 obtain ⟨Ox,en,R,fl,e,hf,k⟩:=h;unfold aq at hf;obtain ⟨⟨t,en1⟩,h1,hf⟩:=zab.mp hf;cases hf;exact ⟨Ox,en,R,t,en1,e,h1,fun v H1 R1 F P o=>k _ H1 _ (PostS.store P o hi hl)⟩
abbrev MG:=PyData->En->Option En
def tFG (K:PySem.W.Frag) (lk:List Nat) (ds ds':List Nat) (g:MG):TG:=fun v σ H Q =>
 ∃ Ox en R t en',EnvOk K ds Ox H σ en R/\Ow K (Own R Ox) H t 0 v NoA/\g t en=some en'/\∀ σ' R',PostS K lk ds' Ox σ H R σ' en' H R' NoA->(∀ j∈lk,R' j=R j)->Q σ' H
def fK (K:PySem.W.Frag) (lk:List Nat) (ds ds':List Nat) (g:List PyData->En->Option En):TGs:=fun vs σ H Q =>
 ∃ Ox en R ts en',EnvOk K ds Ox H σ en R/\Ows K (Own R Ox) H ts 0 vs NoA/\g ts en=some en'/\∀ σ' R',PostS K lk ds' Ox σ H R σ' en' H R' NoA->(∀ j∈lk,R' j=R j)->Q σ' H
def gN (i:Nat):MG:=fun t en=>some (en.set i (some t))
def gs0:List PyData->En->Option En:=fun ts en=>match ts with
 | []=>some en
 | _=>none
def gsC (g:MG) (r:List PyData->En->Option En):List PyData->En->Option En:=fun ts en=>match ts with
 | t :: ts=>(g t en).bind fun en1=>r ts en1
 | []=>none
def gT (g:List PyData->En->Option En):MG:=fun t en=>match t with
 | .tuple ts=>g ts en
 | _=>none
variable {g g1:MG} {gs:List PyData->En->Option En} {v:V} {vs:List V} {QS:St->Hp->Prop}
def BX (hi:i < ds.length) (hl:i ∉ lk) (h:tFG K lk ds (ds.set i 0) (gN i) v σ H QS):kR i v σ H QS:=by
 obtain ⟨Ox,en,R,t,en',e,o,hf,k⟩:=h;cases hf;exact k _ _ (PostS.store (p:=true) (Post.refl e) (by rw [show (fun _=>False:AS)=NoA from rfl,gy]; exact o) hi hl) fun j hj=>if_neg (fun (z:j=i)=>hl (by rw [<- z]; exact hj))
def BV (h:fK K lk ds ds gs0 vs σ H QS):Ff vs σ H QS:=by
 obtain ⟨Ox,en,R,ts,en',e,o,hf,k⟩:=h;cases ts with
 | nil=>cases hf; exact ⟨o,k σ R (PostS.refl e) fun _ _=>rfl⟩
 | cons t ts=>cases hf
def uR (h:fK K lk ds ds2 (gsC g gs) vs σ H QS):AC (tFG K lk ds ds1 g) (fK K lk ds1 ds2 gs) vs σ H QS:=by
 obtain ⟨Ox,en,R,ts,en',e,o,hf,k⟩:=h;cases ts with
 | nil=>cases hf
 | cons t ts =>
  obtain ⟨en1,h1,h2⟩:=zaa.mp hf;obtain ⟨v,r,F1,F2,e1,s1,s2,s3,o1,o2⟩:=o;refine ⟨v,r,e1,Ox,en,R,t,en1,e,Ow.any0 t o1,h1,fun σ1 R1 P1 r1=>?_⟩;refine ⟨Ox,en1,R1,ts,en',P1.env0,Ows.any0 ts (Ows.mv (G:=NoA) ⟨fun a o q _=>q,fun a z=>?_⟩ ts (F:=NoA) (fun _ z=>z) (Ows.any0 ts o2)),h2,fun σ2 R2 P2 r2=>k σ2 R2 (P1.after P2) fun j hj=>(r2 j hj).trans (r1 j hj)⟩;rcases z with z | z
  ·exact (P1.own a (.inr z)).imp .inl id
  ·exact .inl (.inr z)
def FB {n:Nat} (hn:∀ ts en,(∃ en',gs ts en=some en')->ts.length=n) (h:tFG K lk ds ds1 (gT gs) v σ H QS):Fe K n (fK K lk ds ds1 gs) v σ H QS:=by
 obtain ⟨Ox,en,R,t,en',e,o,hf,k⟩:=h;cases t with
 | tuple ts =>
  have hf':gs ts en=some en':=hf;obtain ⟨a,vs,e1,⟨_,h1,h2⟩ | ⟨z,_⟩⟩:=o
  ·refine ⟨a,vs,e1,h1.sq,?_,Ox,en,R,ts,en',e,h2,hf',k⟩;rw [<- hn ts en ⟨en',hf'⟩]
   have:∀ {ts:List PyData} {vs:List V} {F:AS},Ows K (Own R Ox) H ts 0 vs F->vs.length=ts.length:=fun {ts}=>by
    induction ts with
    | nil=>intro vs F h; rw [show vs=[] from h]; rfl
    | cons t ts ih =>
     intro vs F h;obtain ⟨v,r,F1,F2,e,h1,h2,h3,h4,h5⟩:=h;rw [e,zac,zac,ih h5]
   exact this h2
  ·exact absurd rfl z
 | _=>cases hf
abbrev MI:=En->Option (List PyData × En)
def gx (K:PySem.W.Frag) (O:AS) (H0:Hp) (J:It) (ts:List PyData):Prop :=
 ∀ (i:Nat) (H:Hp) (O1:AS),(∀ a o,H0 a=some o->¬ O a->H a=some o)->(∀ a,O1 a->O a\/H0 a=none)->(∀ a,O1 a->∃ o,H a=some o) ->
  (∀ t,ts[i]?=some t->J.go i H/\∀ x H1,J.yld i H x H1->(∀ a o,H a=some o->H1 a=some o)/\Ow K O1 H1 t 0 x NoA)/\(ts.length=i->J.stop i H)
def tFI (K:PySem.W.Frag) (p:Bool) (ds ds':List Nat) (f:MI):TI:=fun σ H RJ =>
 ∃ Ox en R ts en',EnvOk K ds Ox H σ en R/\f en=some (ts,en')/\∀ J H' R',Post K p ds' Ox σ H en R en' H' R' NoA->gx K (Own R' Ox) H' J ts->RJ J H'
def bW (g:MG) (b:MS):List PyData->En->Option Fl
 | [],en=>some (.nx en)
 | t :: ts,en=>(g t en).bind fun en1=>(b en1).bind fun fl=>match fl with
  | .nx en2=>bW g b ts en2
  | .ct en2=>bW g b ts en2
  | .rt r en2=>some (.rt r en2)
def cC (fi:MI) (g:MG) (b:MS):MS:=fun en=>(fi en).bind fun r=>bW g b r.1 r.2
def Fq {fi:MI} (h:tFS K J ds ds1 (cC fi g m) D σ H):Ei (tFI K p ds ds1 fi) (tFG K J.lk ds1 ds2 g) (tFS K { J with dsl:=ds1 } ds2 ds1 m) D σ H:=by
 obtain ⟨Ox,en,R,fl,e,hf,k⟩:=h;unfold cC at hf;obtain ⟨⟨ts,en1⟩,h1,hf⟩:=zaa.mp hf;refine ⟨Ox,en,R,ts,en1,e,h1,fun Jt H1 R1 P1 wk=>?_⟩;refine ⟨fun i n σ' H'=>∃ en' R',n=ts.length - i/\i<=ts.length/\PostS K J.lk ds1 Ox σ H1 R1 σ' en' H' R' NoA/\bW g m (ts.drop i) en'=some fl,⟨_,en1,R1,rfl,Nat.zero_le _,PostS.refl P1.env0,hf⟩,?_⟩;rintro i n σ2 H2 ⟨en2,R2,rfl,hi,P2,hr⟩;obtain ⟨w1,w2⟩:=wk i H2 (Own R2 Ox) (fun a o q z=>P2.keep a o q fun j zj=>z (.inl ⟨j,zj⟩)) (fun a z=>by
  rcases z with z | z
  ·exact (P2.own a (.inr z)).imp .inl id
  ·exact .inl (.inr z)) fun a z=>P2.env0.dom a z
 by_cases hlt:i < ts.length
 ·obtain ⟨go,yl⟩:=w1 ts[i] (zak hlt);have hd:ts.drop i=ts[i] :: ts.drop (i+1):=List.drop_eq_getElem_cons hlt;rw [hd] at hr;obtain ⟨en3,h3,hr⟩:=zaa.mp hr;obtain ⟨fl2,h4,hr⟩:=zaa.mp hr;refine .inr ⟨go,fun σ' H'=>∃ en' R',PostS K J.lk ds1 Ox σ H1 R1 σ' en' H' R' NoA/\bW g m (ts.drop (i+1)) en'=some fl,fun σ' H' ⟨en',R',P',h'⟩=>⟨ts.length - (i+1),by omega,en',R',rfl,hlt,P',h'⟩,fun x H3 y=>?_⟩;obtain ⟨gr,ox⟩:=yl x H3 y;have P3:Post K true ds1 Ox σ2 H2 en2 R2 en2 H3 R2 NoA:=Post.new P2.env0 gr fun _ z=>z.elim;refine ⟨Ox,en2,R2,ts[i],en3,P3.env0,ox,h3,fun σ4 R4 P4 _=>?_⟩;have P4':=(P2.after P3.s).after P4;refine ⟨Ox,en3,R4,fl2,P4.env0,h4,?_⟩;cases fl2 with
  | nx en5=>exact fun σ5 H5 R5 P5=>⟨en5,R5,P4'.after P5,hr⟩
  | ct en5=>exact fun σ5 H5 R5 P5=>⟨en5,R5,P4'.after P5,hr⟩
  | rt t en5 =>
   cases hr;exact fun v σ5 H5 R5 F P5 o=>k v σ5 H5 R5 F (P1.s.after (P4'.after P5)) o
 ·have e2:i=ts.length:=by omega
  subst e2;rw [List.drop_length] at hr;cases hr;exact .inl ⟨w2 rfl,k σ2 H2 R2 (P1.s.after P2)⟩
def whN (c:MT) (b:MS):Nat->En->Option Fl
 | 0,_=>none
 | n+1,en=>(c en).bind fun r=>if r.1 then (b r.2).bind fun fl=>match fl with
   | .nx en2=>whN c b n en2
   | .ct en2=>whN c b n en2
   | .rt t en2=>some (.rt t en2)
  else some (.nx r.2)
open Classical in
noncomputable def bN (c:MT) (b:MS):MS:=fun en=>if h:∃ n fl,whN c b n en=some fl then some h.choose_spec.choose else none
def gU {b:MS} {fl:Fl} (h:bN c b en=some fl):∃ n,whN c b n en=some fl:=by
 unfold bN at h;split at h
 ·next q =>
  cases h;exact ⟨q.choose,q.choose_spec.choose_spec⟩
 ·cases h
def uK (h:tFS K J ds ds1 (bN c m) D σ H):rG (tFT K p ds ds1 c) (tFS K { J with dsl:=ds } ds1 ds m) D σ H:=by
 obtain ⟨Ox,en,R,fl,e,hf,k⟩:=h;obtain ⟨n0,hn⟩:=gU hf;refine ⟨fun n σ' H'=>∃ en' R',PostS K J.lk ds Ox σ H R σ' en' H' R' NoA/\whN c m n en'=some fl,⟨n0,en,R,PostS.refl e,hn⟩,?_⟩;rintro n σ2 H2 ⟨en2,R2,P2,hr⟩;cases n with
 | zero=>cases hr
 | succ n =>
  unfold whN at hr;obtain ⟨⟨b,en3⟩,h3,hr⟩:=zaa.mp hr;refine ⟨Ox,en2,R2,b,en3,P2.env0,h3,fun H3 R3 P3=>?_⟩;cases b with
  | false =>
   cases hr;rw [if_neg Bool.false_ne_true];exact k σ2 H3 R3 (P2.after P3.s)
  | true =>
   rw [if_pos rfl] at hr ⊢;obtain ⟨fl2,h4,hr⟩:=zaa.mp hr;refine ⟨fun σ' H'=>∃ en' R',PostS K J.lk ds Ox σ H R σ' en' H' R' NoA/\whN c m n en'=some fl,fun σ' H' q=>⟨n,Nat.lt_succ_self _,q⟩,Ox,en3,R3,fl2,P3.env0,h4,?_⟩;have P3':=P2.after (P3.s (lk:=J.lk));cases fl2 with
   | nx en5=>exact fun σ5 H5 R5 P5=>⟨en5,R5,P3'.after P5,hr⟩
   | ct en5=>exact fun σ5 H5 R5 P5=>⟨en5,R5,P3'.after P5,hr⟩
   | rt t en5 =>
    cases hr;exact fun v σ5 H5 R5 F P5 o=>k v σ5 H5 R5 F (P3'.after P5) o
end
def lcF (g:MG) (c:MT) (f:ME):List D->List D->En->Option (List D × En)
 | [],acc,en=>some (acc,en)
 | t :: ts,acc,en=>(g t en).bind fun en1=>(c en1).bind fun r=>if r.1 then (f r.2).bind fun q=>if acc.length < sizeLine then lcF g c f ts (acc++[q.1]) q.2 else none else lcF g c f ts acc r.2
def bU (js:List (Option Nat)) (en:En):En:=js.map fun j=>match j with
 | some j=>(en[j]?).join
 | none=>none
def wbB:List (Option Nat)->En->En->En
 | some j :: js,o :: r,en=>wbB js r (en.set j o)
 | none :: js,_ :: r,en=>wbB js r en
 | _,_,en=>en
def eLC (q:Bool) (fi:MI) (g:MG) (c:MT) (f:ME) (js:List (Option Nat)):ME:=fun en=>(fi en).bind fun r=>(lcF g c f r.1 [] (bU js r.2)).map fun z=>(.list z.1,if q then r.2 else wbB js z.2 r.2)
def hR (ds:List Nat):List (Option Nat)->List Nat->Bool
 | [],[]=>true
 | some j :: js,d :: r=>decide (ds[j]?=some d) && (decide (some j ∉ js) && hR ds js r)
 | none :: js,_ :: r=>hR ds js r
 | _,_=>false
section
variable {K:PySem.W.Frag} {p p1 p2 q:Bool} {lk:List Nat} {ds ds0 ds1 ds2 ds' dsi:List Nat} {Ox Ox' O O':AS} {H H':Hp} {σ σ':St} {en en' en1 en2:En} {R R':Nat->AS} {d d' d1 d2 dr:Nat} {t t1 t2:D} {Q:VK} {f f1 f2:ME} {c:MT} {g:MG} {fi:MI} {i:Nat} {js:List (Option Nat)}
def kq:∀ {js:List (Option Nat)} {dsi:List Nat},hR ds js dsi=true->dsi.length=js.length/\(∀ (k j:Nat),js[k]?=some (some j)->∃ d,dsi[k]?=some d/\ds[j]?=some d)/\(∀ (k k' j:Nat),js[k]?=some (some j)->js[k']?=some (some j)->k=k')
 | [],[],_=>⟨rfl,fun k j z=>by simp at z,fun k k' j z=>by simp at z⟩
 | some j0 :: js,d :: r,h=>by
  unfold hR at h;rw [Bool.and_eq_true,Bool.and_eq_true] at h;obtain ⟨h1,h2,h3⟩:=h;obtain ⟨a,b,c⟩:=kq h3;have n:=of_decide_eq_true h2;refine ⟨by rw [zac,zac,a],fun k j z=>?_,fun k k' j z z'=>?_⟩
  ·cases k with
   | zero=>simp at z; subst z; exact ⟨d,rfl,of_decide_eq_true h1⟩
   | succ k=>exact b k j (by simpa using z)
  ·cases k with
   | zero =>
    simp at z;subst z;cases k' with
    | zero=>rfl
    | succ k'=>exact absurd (zaX (by simpa using z':js[k']?=some (some j0))) n
   | succ k =>
    cases k' with
    | zero =>
     simp at z';subst z';exact absurd (zaX (by simpa using z:js[k]?=some (some j0))) n
    | succ k'=>rw [c k k' j (by simpa using z) (by simpa using z')]
 | none :: js,d :: r,h=>by
  unfold hR at h;obtain ⟨a,b,c⟩:=kq h;refine ⟨by rw [zac,zac,a],fun k j z=>?_,fun k k' j z z'=>?_⟩
  ·cases k with
   | zero=>simp at z
   | succ k=>exact b k j (by simpa using z)
  ·cases k with
   | zero=>simp at z
   | succ k =>
    cases k' with
    | zero=>simp at z'
    | succ k'=>rw [c k k' j (by simpa using z) (by simpa using z')]
 | [],_ :: _,h=>nomatch h
 | some _ :: _,[],h=>nomatch h
 | none :: _,[],h=>nomatch h
def lA:∀ (js:List (Option Nat)) (r en:En),(wbB js r en).length=en.length
 | [],_,_=>by unfold wbB; rfl
 | some _ :: _,[],_=>by unfold wbB; rfl
 | none :: _,[],_=>by unfold wbB; rfl
 | some j :: js,o :: r,en=>by unfold wbB; rw [lA js r _,zaV]
 | none :: js,o :: r,en=>by unfold wbB; exact lA js r _
def jO:∀ (js:List (Option Nat)) (r en:En) (i:Nat),(∀ k:Nat,js[k]?≠some (some i))->(wbB js r en)[i]?=en[i]?
 | [],_,_,_,_=>by unfold wbB; rfl
 | some _ :: _,[],_,_,_=>by unfold wbB; rfl
 | none :: _,[],_,_,_=>by unfold wbB; rfl
 | none :: js,o :: r,en,i,h=>by unfold wbB; exact jO js r en i fun j=>h (j+1)
 | some k :: js,o :: r,en,i,h=>by
  unfold wbB;rw [jO js r _ i fun j=>h (j+1),zaO];intro e;subst e;exact h 0 rfl
def m3:∀ (js:List (Option Nat)) (r en:En) (i k:Nat),js[k]?=some (some i)->(∀ k':Nat,js[k']?=some (some i)->k'=k)->r.length=js.length->i < en.length->(wbB js r en)[i]?=r[k]?
 | [],_,_,_,_,h,_,_,_=>by simp at h
 | some _ :: js,[],_,_,_,_,_,h,_=>by simp at h
 | none :: js,[],_,_,_,_,_,h,_=>by simp at h
 | none :: js,o :: r,en,i,k,h,u,l,b=>by
  unfold wbB;cases k with
  | zero=>simp at h
  | succ k=>exact m3 js r en i k (by simpa using h) (fun j' z=>by have:=u (j'+1) (by simpa using z); omega) (by simpa using l) b
 | some j :: js,o :: r,en,i,k,h,u,l,b=>by
  unfold wbB;cases k with
  | zero =>
   have e:j=i:=by simpa using h
   subst e;rw [jO js r _ j fun j' z=>by have:=u (j'+1) (by simpa using z); omega];rw [zaP b];rfl
  | succ k=>exact m3 js r _ i k (by simpa using h) (fun j' z=>by have:=u (j'+1) (by simpa using z); omega) (by simpa using l) (by rw [zaV]; exact b)
def Ows.snoc:∀ {ts:List D} {vs:List V} {F1 F2:AS} {v:V},Ows K O H ts d vs F1->Ow K O H t d v F2->(∀ b,F1 b->¬ F2 b)->Ows K O H (ts++[t]) d (vs++[v]) (U F1 F2)
 | [],vs,F1,F2,v,h,h2,_=>by
  have e:vs=[]:=h;subst e;exact ⟨v,[],F2,NoA,rfl,fun _ z=>.inr z,fun _ z=>z.elim,fun _ _ z=>z.elim,h2,rfl⟩
 | u :: ts,vs,F1,F2,v,h,h2,hd=>by
  obtain ⟨w,r,G1,G2,e,s1,s2,s3,h4,h5⟩:=h;subst e;refine ⟨w,r++[v],G1,U G2 F2,rfl,fun b z=>.inl (s1 b z),fun b z=>z.imp (s2 b) id,fun b z z2=>?_,h4,Ows.snoc h5 h2 fun b z=>hd b (s2 b z)⟩;rcases z2 with z2 | z2
  ·exact s3 b z z2
  ·exact hd b (s1 b z) z2
def Ows.len:∀ {ts:List D} {vs:List V} {F:AS},Ows K O H ts d vs F->vs.length=ts.length
 | [],_,_,h=>by rw [show _=[] from h]; rfl
 | t :: ts,_,_,h=>by
  obtain ⟨v,r,F1,F2,e,h1,h2,h3,h4,h5⟩:=h;rw [e,zac,zac,h5.len]
def hC:List (Option Nat)->Nat->List Nat
 | [],_=>[]
 | some _ :: r,n=>n :: hC r (n+1)
 | none :: r,n=>hC r (n+1)
def iG:∀ {js:List (Option Nat)} {n k j:Nat},js[k]?=some (some j)->n+k∈hC js n
 | [],n,k,j,h=>by simp at h
 | some x :: r,n,k,j,h=>by
  unfold hC;cases k with
  | zero=>exact zaq
  | succ k =>
   refine zaj _ ?_
   have:=iG (n:=n+1) (k:=k) (j:=j) (by simpa using h);rw [show n+(k+1)=n+1+k by omega];exact this
 | none :: r,n,k,j,h=>by
  unfold hC;cases k with
  | zero=>simp at h
  | succ k =>
   have:=iG (n:=n+1) (k:=k) (j:=j) (by simpa using h);rw [show n+(k+1)=n+1+k by omega];exact this
def oz (js:List (Option Nat)) (R1:Nat->AS):Nat->AS:=fun k=>match js[k]? with
 | some (some j)=>R1 j
 | _=>NoA
def Ck {R1:Nat->AS} {k j:Nat} (h:js[k]?=some (some j)):oz js R1 k=R1 j:=by unfold oz; rw [h]
def Cj {R1:Nat->AS} {k:Nat} {a:Addr} (h:oz js R1 k a):∃ j,js[k]?=some (some j)/\R1 j a:=by
 unfold oz at h;cases q:js[k]? with
 | none=>rw [q] at h; exact h.elim
 | some o =>
  rw [q] at h;cases o with
  | none=>exact h.elim
  | some j=>exact ⟨j,rfl,h⟩
def FX {cd:Nat} (hc:hR ds1 js dsi=true) (hd:dn d=cd) (hz:d≠0) (hl:lk=hC js 0) (h:tF K (p && q) ds ds1 d (eLC q fi g c f js) σ H Q) :
  tLC (tFI K p ds ds1 fi) (tFG K lk dsi dsi g) (tFT K q dsi dsi c) (tF K q dsi dsi cd f) js σ H Q:=by
 obtain ⟨Ox,en,R,t,en',e,hf,k⟩:=h;unfold eLC at hf;obtain ⟨⟨ts,en1⟩,h1,hf⟩:=zaa.mp hf;obtain ⟨⟨fin,enf⟩,h2,hf⟩:=zab.mp hf;cases hf;obtain ⟨cl,c1,c2⟩:=kq hc;refine ⟨Ox,en,R,ts,en1,e,h1,fun J H1 R1 P1 wk D hD=>?_⟩;have E1:=P1.env0;generalize hRI:oz js R1=RI;have ri1:∀ k j:Nat,js[k]?=some (some j)->RI k=R1 j:=fun k j z=>by rw [<- hRI]; exact Ck z
 have ric:∀ (k:Nat) a,RI k a->∃ j,js[k]?=some (some j)/\R1 j a:=fun k a z=>by rw [<- hRI] at z; exact Cj z
 let OxI:AS:=fun a=>Ox a\/a=D\/∃ i,R1 i a/\∀ k:Nat,js[k]?≠some (some i);have nD:∀ a,Own R1 Ox a->a≠D:=fun a z z2=>by
  subst z2;obtain ⟨o,q⟩:=E1.dom a z;rw [hD] at q;cases q
 have lI:(bU js en1).length=js.length:=by unfold bU; rw [zad]
 have lS:(dM js σ).length=js.length:=by unfold dM; rw [zad]
 have getE:∀ (k:Nat) t,(bU js en1)[k]?=some (some t)->∃ j,js[k]?=some (some j)/\en1[j]?=some (some t):=fun k t z=>by
  unfold bU at z;rw [zao] at z;obtain ⟨oj,h1,h2⟩:=zab.mp z;cases oj with
  | none=>cases h2
  | some j =>
   refine ⟨j,h1,?_⟩;have h2':(en1[j]?).join=some t:=h2;cases q:en1[j]? with
   | none=>rw [q] at h2'; cases h2'
   | some o=>rw [q] at h2'; exact congrArg some h2'
 have getS:∀ (k j:Nat) v,js[k]?=some (some j)->σ[j]?=some (some v)->(dM js σ)[k]?=some (some v):=fun k j v z1 z2=>by
  unfold dM;rw [zao,z1];show some ((σ[j]?).join)=_;rw [z2];rfl
 have u2:∀ a o,H1 a=some o->upd H1 D (.lst []) a=some o:=fun a o q=>(bB (o:=.lst []) hD).1 a o q;have EI:EnvOk K dsi OxI (upd H1 D (.lst [])) (dM js σ) (bU js en1) RI:=by
  refine ⟨fun k t hk=>?_,fun k k' a z z'=>?_,fun k a z z2=>?_,fun a z=>?_,by rw [lI,lS],by rw [cl,lS]⟩
  ·obtain ⟨j,hj,ht⟩:=getE k t hk;obtain ⟨v,d,g1,g2,g3⟩:=E1.at_ j t ht;obtain ⟨d',q1,q2⟩:=c1 k j hj;rw [g2] at q2;cases q2;refine ⟨v,d,getS k j v hj g1,q1,?_⟩;rw [ri1 k j hj];refine Ow.mv (G:=R1 j) ⟨fun a o q _=>u2 a o q,fun a z=>?_⟩ t (fun _ z=>z) g3;rcases z with ⟨k',z⟩ | z | z | ⟨i,z,_⟩
   ·obtain ⟨j',_,z⟩:=ric k' a z;exact .inl (.inl ⟨j',z⟩)
   ·exact .inl (.inr z)
   ·exact .inr (z ▸ hD)
   ·exact .inl (.inl ⟨i,z⟩)
  ·obtain ⟨j,hj,z⟩:=ric k a z;obtain ⟨j',hj',z'⟩:=ric k' a z'
   have:=E1.dj j j' a z z';subst this;exact c2 k k' j hj hj'
  ·obtain ⟨j,hj,z⟩:=ric k a z;rcases z2 with z2 | z2 | ⟨i,z2,n⟩
   ·exact E1.dx j a z z2
   ·exact nD a (.inl ⟨j,z⟩) z2
   ·have:=E1.dj j i a z z2;subst this;exact n k hj
  ·rcases z with ⟨k,z⟩ | z | z | ⟨i,z,_⟩
   ·obtain ⟨j,hj,z⟩:=ric k a z;obtain ⟨o,q⟩:=E1.dom a (.inl ⟨j,z⟩);exact ⟨o,u2 a o q⟩
   ·obtain ⟨o,q⟩:=E1.dom a (.inr z);exact ⟨o,u2 a o q⟩
   ·subst z;exact ⟨_,aw⟩
   ·obtain ⟨o,q⟩:=E1.dom a (.inl ⟨i,z⟩);exact ⟨o,u2 a o q⟩
 refine ⟨fun i n τ H'=>∃ eni RI' acc vs Fa,n=ts.length - i/\i<=ts.length/\PostS K lk dsi OxI (dM js σ) H1 RI τ eni H' RI' Fa/\H' D=some (.lst vs)/\Ows K (Own RI' (U Fa OxI)) H' acc cd vs Fa/\lcF g c f (ts.drop i) acc eni=some (fin,enf) /\
   (q=true->(∀ k j:Nat,js[k]?=some (some j)->RI' k=RI k)/\(∀ a o,H1 a=some o->H' a=some o)),
  ⟨_,bU js en1,RI,[],[],NoA,rfl,Nat.zero_le _,⟨by rw [gy]; exact EI,fun _ z=>z.elim,fun a o q _=>u2 a o q,fun a z=>z.elim (fun z=>z.elim) .inl,fun a o q=>⟨o,u2 a o q⟩,fun _ _=>rfl⟩,aw,rfl,h2,fun _=>⟨fun _ _ _=>rfl,u2⟩⟩,?_⟩
 rintro i n τ H2 ⟨eni,RI2,acc,vs,Fa,rfl,hi,P2,hDl,oacc,hr,pu⟩;have fL:∀ a,Own RI2 (U Fa OxI) a->Own R1 Ox a\/H1 a=none:=fun a z=>by
  rcases z with z | z | z | z | ⟨i,z,_⟩
  ·rcases P2.own a (.inr z) with ⟨k,z⟩ | z
   ·obtain ⟨j,_,z⟩:=ric k a z;exact .inl (.inl ⟨j,z⟩)
   ·exact .inr z
  ·rcases P2.own a (.inl z) with ⟨k,z⟩ | z
   ·obtain ⟨j,_,z⟩:=ric k a z;exact .inl (.inl ⟨j,z⟩)
   ·exact .inr z
  ·exact .inl (.inr z)
  ·exact .inr (z ▸ hD)
  ·exact .inl (.inl ⟨i,z⟩)
 obtain ⟨w1,w2⟩:=wk i H2 (Own RI2 (U Fa OxI)) (fun a o q z=>P2.keep a o q fun k zk=>by
  obtain ⟨j,_,zj⟩:=ric k a zk;exact z (.inl ⟨j,zj⟩)) fL fun a z=>P2.env.dom a z
 have DO:OxI D:=.inr (.inl rfl);by_cases hlt:i < ts.length
 ·obtain ⟨go,yl⟩:=w1 ts[i] (zak hlt);rw [List.drop_eq_getElem_cons hlt] at hr;obtain ⟨en3,h3,hr⟩:=zaa.mp hr;obtain ⟨⟨b,en4⟩,h4,hr⟩:=zaa.mp hr;refine .inr ⟨go,fun τ' H'=>∃ eni RI' acc vs Fa,PostS K lk dsi OxI (dM js σ) H1 RI τ' eni H' RI' Fa/\H' D=some (.lst vs)/\Ows K (Own RI' (U Fa OxI)) H' acc cd vs Fa/\lcF g c f (ts.drop (i+1)) acc eni=some (fin,enf)/\(q=true->(∀ k j:Nat,js[k]?=some (some j)->RI' k=RI k)/\(∀ a o,H1 a=some o->H' a=some o)),
   fun τ' H' ⟨eni,RI',acc,vs,Fa,P',x1,x2,x3,x4⟩=>⟨_,by omega,eni,RI',acc,vs,Fa,rfl,hlt,P',x1,x2,x3,x4⟩,fun x H3 y=>?_⟩
  obtain ⟨gr,ox⟩:=yl x H3 y;have P3:Post K true dsi (U Fa OxI) τ H2 eni RI2 eni H3 RI2 NoA:=Post.new P2.env gr fun _ z=>z.elim;have chain:∀ {τ5 en5 H5 RI5 F5},PostS K lk dsi (U Fa OxI) τ H2 RI2 τ5 en5 H5 RI5 F5->PostS K lk dsi OxI (dM js σ) H1 RI τ5 en5 H5 RI5 (U Fa F5):=fun {τ5 en5 H5 RI5 F5} P5=>by
   have n1:∀ a,H2 a=none->H1 a=none:=fun a z=>by
    cases q:H1 a with
    | none=>rfl
    | some o =>
     obtain ⟨o',q'⟩:=P2.dom a o q;rw [z] at q';cases q'
   refine ⟨ld ▸ P5.env,fun a z z2=>?_,fun a o q n=>?_,fun a z=>?_,fun a o q=>?_,fun j hj=>(P5.lk j hj).trans (P2.lk j hj)⟩
   ·rcases z with z | z
    ·exact P2.fx a z z2
    ·exact P5.fx a z (.inr z2)
   ·refine P5.keep a o (P2.keep a o q n) fun i z=>?_;rcases P2.own a (.inr ⟨i,z⟩) with ⟨j,z⟩ | z
    ·exact n j z
    ·rw [q] at z; cases z
   ·rcases z with (z | z) | z
    ·exact P2.own a (.inl z)
    ·rcases P5.own a (.inl z) with z | z
     ·exact P2.own a (.inr z)
     ·exact .inr (n1 a z)
    ·rcases P5.own a (.inr z) with z | z
     ·exact P2.own a (.inr z)
     ·exact .inr (n1 a z)
   ·obtain ⟨o',q'⟩:=P2.dom a o q;exact P5.dom a o' q'
  have carry:∀ {τ5 en5 H5 RI5 F5},PostS K lk dsi (U Fa OxI) τ H2 RI2 τ5 en5 H5 RI5 F5->Ows K (Own RI5 (U (U Fa F5) OxI)) H5 acc cd vs Fa:=fun {τ5 en5 H5 RI5 F5} P5=>by
   refine Ows.mv (G:=Fa) ⟨fun a o q z=>P5.keep a o q fun i zi=>?_,fun a z=>?_⟩ acc (fun _ z=>z) oacc
   ·rcases z with z | z
    ·exact z (.inl ⟨i,zi⟩)
    ·exact P2.env.dx i a zi (.inl z)
   ·rcases z with z | (z | z) | z
    ·exact (P5.own a (.inr z)).imp .inl id
    ·exact .inl (.inr (.inl z))
    ·exact (P5.own a (.inl z)).imp .inl id
    ·exact .inl (.inr (.inr z))
  have UFN:U Fa NoA=Fa:=dq fun a=>⟨fun z=>z.elim id fun z=>z.elim,.inl⟩;refine ⟨U Fa OxI,eni,RI2,ts[i],en3,P3.env0,ox,h3,fun τ4 R4 P4 r4=>?_⟩;have P4':=(P3.s (lk:=lk)).after P4;refine ⟨U Fa OxI,en3,R4,b,en4,P4.env0,h4,fun H5 R5 P5=>?_⟩;have P5':=P4'.after (P5.s (lk:=lk));have pu5:q=true->(∀ k j:Nat,js[k]?=some (some j)->R5 k=RI k)/\(∀ a o,H1 a=some o->H5 a=some o):=fun hq=>by
   obtain ⟨_,b2,b3⟩:=P5.pure hq;obtain ⟨e1,e2⟩:=pu hq;refine ⟨fun k j z=>?_,fun a o qq=>b3 a o (gr a o (e2 a o qq))⟩;rw [b2,r4 k (by rw [hl]; have:=iG (n:=0) z; rw [za4] at this; exact this)];exact e1 k j z
  cases b with
  | false =>
   dsimp only
   rw [if_neg Bool.false_ne_true];have c5:=chain P5';have o5:=carry P5';rw [UFN] at c5 o5;exact ⟨en4,R5,acc,vs,Fa,c5,P5'.keep D _ hDl fun k z=>P2.env.dx k D z (.inr DO),o5,hr,pu5⟩
  | true =>
   dsimp only
   rw [if_pos rfl];obtain ⟨⟨t6,en6⟩,h6,hr⟩:=zaa.mp (show ((f en4).bind fun q=>if acc.length < sizeLine then lcF g c f (ts.drop (i+1)) (acc++[q.1]) q.2 else none)=some (fin,enf) from hr);refine ⟨U Fa OxI,en4,R5,t6,en6,P5.env0,h6,fun v H6 R6 F6 P6 o6=>?_⟩;have P6':=P5'.after (P6.s (lk:=lk));by_cases hlen:acc.length < sizeLine
   case neg=>rw [if_neg hlen] at hr; cases hr
   rw [if_pos hlen] at hr;have hD6:=P6'.keep D _ hDl fun k z=>P2.env.dx k D z (.inr DO);refine ⟨vs,hD6,by rw [oacc.len]; exact hlen,en6,R6,acc++[t6],vs++[v],U Fa F6,?_,aw,?_,hr,?_⟩
   ·have c6:=chain P6';have keepD:∀ a o,H6 a=some o->a≠D->upd H6 D (.lst (vs++[v])) a=some o:=fun a o q n=>by rw [ay n]; exact q
    refine ⟨⟨fun k t hk=>?_,c6.env.dj,c6.env.dx,fun a z=>?_,c6.env.l1,c6.env.l2⟩,c6.fx,fun a o q n=>?_,c6.own,fun a o q=>?_,c6.lk⟩
    ·obtain ⟨v',d',g1,g2,g3⟩:=c6.env.at_ k t hk;refine ⟨v',d',g1,g2,Ow.mv (G:=R6 k) ⟨fun a o q z=>keepD a o q fun zD=>?_,fun a z=>.inl z⟩ t (fun _ z=>z) g3⟩;subst zD;rcases z with z | z
     ·exact z (.inr (.inr DO))
     ·exact c6.env.dx k a z (.inr DO)
    ·by_cases ha:a=D
     ·subst ha; exact ⟨_,aw⟩
     ·obtain ⟨o,q⟩:=c6.env.dom a z;exact ⟨o,keepD a o q ha⟩
    ·refine keepD a o (c6.keep a o q n) fun zD=>?_;subst zD;rw [hD] at q;cases q
    ·obtain ⟨o',q'⟩:=c6.dom a o q;by_cases ha:a=D
     ·subst ha; exact ⟨_,aw⟩
     ·exact ⟨o',keepD a o' q' ha⟩
   ·have o1:=carry P6';have o2:Ow K (Own R6 (U (U Fa F6) OxI)) H6 t6 cd v F6:=ld ▸ o6
    have:=Ows.snoc o1 o2 fun b z1 z2=>P6.fx b z2 (.inl z1);refine Ows.mv (G:=U Fa F6) ⟨fun a o q z=>?_,fun a z=>.inl z⟩ _ (fun _ z=>z) this;rw [ay]
    ·exact q
    ·intro zD;subst zD;rcases z with z | z | z
     ·exact z (.inr (.inr DO))
     ·exact P2.fx a z DO
     ·exact P6.fx a z (.inr DO)
   ·intro hq;obtain ⟨_,b2,b3⟩:=P6.pure hq;obtain ⟨e1,e2⟩:=pu5 hq;refine ⟨fun k j z=>by rw [b2]; exact e1 k j z,fun a o qq=>?_⟩;rw [ay]
    ·exact b3 a o (e2 a o qq)
    ·intro zD;subst zD;rw [hD] at qq;cases qq
 ·have e2:i=ts.length:=by omega
  subst e2;rw [List.drop_length] at hr;obtain ⟨e3,e4⟩:acc=fin/\eni=enf:=by cases hr; exact ⟨rfl,rfl⟩
  subst e3 e4;refine .inl ⟨w2 rfl,?_⟩;have fD:∀ a,Fa a->a≠D:=fun a z z2=>by
   subst z2;exact P2.fx a z DO
  cases hq:q with
  | true =>
   obtain ⟨e1,e2⟩:=pu hq;subst hq;have fn:∀ a,Fa a->H1 a=none:=fun a z=>by
    rcases P2.own a (.inl z) with ⟨k,z2⟩ | z2
    ·obtain ⟨j,hj,z3⟩:=ric k a z2;rw [<- e1 k j hj] at z2;exact absurd (.inl z) (P2.env.dx k a z2)
    ·exact z2
   have nt:NewTo H1 H2 (fun a=>a=D\/Fa a):=⟨e2,fun a z=>by
    rcases z with z | z
    ·subst z;exact ⟨hD,_,hDl⟩
    ·exact ⟨fn a z,P2.env.dom a (.inr (.inl z))⟩⟩
   have PF:=P1.fin nt;rw [Bool.and_true] at k;refine k (.ref D) H2 R1 _ PF ⟨D,vs,rfl,.inr ⟨hz,hDl,.inl rfl,Fa,fun b z=>⟨.inr z,fD b z⟩,?_⟩⟩;rw [hd];refine Ows.grow (fun a z=>?_) _ (fun _ z=>z) oacc;rcases z with ⟨i,z⟩ | (z | z) | z
   ·by_cases hc2:∃ kk:Nat,js[kk]?=some (some i)
    ·obtain ⟨kk,hk⟩:=hc2;refine .inl ⟨kk,?_⟩;rw [e1 kk i hk,ri1 kk i hk];exact z
    ·exact .inr (.inr (.inr (.inr ⟨i,z,fun kk hk=>hc2 ⟨kk,hk⟩⟩)))
   ·exact .inr (.inr (z ▸ DO))
   ·exact .inr (.inl z)
   ·exact .inr (.inr (.inl z))
  | false =>
   subst hq;rw [Bool.and_false] at k
   classical
   let R3:Nat->AS:=fun i=>if hh:∃ kk:Nat,js[kk]?=some (some i) then RI2 hh.choose else R1 i
   have r31:∀ (i kk:Nat),js[kk]?=some (some i)->R3 i=RI2 kk:=fun i kk z=>by
    have hh:∃ kk:Nat,js[kk]?=some (some i):=⟨kk,z⟩
    have:hh.choose=kk:=c2 _ _ i hh.choose_spec z;show (if hh:∃ kk:Nat,js[kk]?=some (some i) then RI2 hh.choose else R1 i)=RI2 kk;rw [dif_pos hh,this]
   have r32:∀ i:Nat,(∀ kk:Nat,js[kk]?≠some (some i))->R3 i=R1 i:=fun i z=>by
    show (if hh:∃ kk:Nat,js[kk]?=some (some i) then RI2 hh.choose else R1 i)=R1 i;rw [dif_neg fun ⟨j,q⟩=>z j q]
   have r3c:∀ (i:Nat) a,R3 i a->(∃ kk:Nat,js[kk]?=some (some i)/\RI2 kk a)\/((∀ kk:Nat,js[kk]?≠some (some i))/\R1 i a):=fun i a z=>by
    by_cases hh:∃ kk:Nat,js[kk]?=some (some i)
    ·obtain ⟨kk,hk⟩:=hh;rw [r31 i kk hk] at z;exact .inl ⟨kk,hk,z⟩
    ·rw [r32 i fun j z=>hh ⟨j,z⟩] at z;exact .inr ⟨fun j z=>hh ⟨j,z⟩,z⟩
   have sub3:∀ a,Own R3 (U (fun a=>a=D\/Fa a) Ox) a->Own RI2 (U Fa OxI) a:=fun a z=>by
    rcases z with ⟨i,z⟩ | (z | z) | z
    ·rcases r3c i a z with ⟨j,_,z⟩ | ⟨n,z⟩
     ·exact .inl ⟨j,z⟩
     ·exact .inr (.inr (.inr (.inr ⟨i,z,n⟩)))
    ·exact .inr (.inr (z ▸ DO))
    ·exact .inr (.inl z)
    ·exact .inr (.inr (.inl z))
   have el:eni.length=js.length:=by rw [P2.env.l1,<- P2.env.l2]; exact cl
   have riO:∀ (kk:Nat) a,RI kk a->Own R1 Ox a:=fun kk a z=>by
    obtain ⟨j,_,z⟩:=ric kk a z;exact .inl ⟨j,z⟩
   have env3:EnvOk K ds1 (U (fun a=>a=D\/Fa a) Ox) H2 σ (wbB js eni en1) R3:=by
    refine ⟨fun i u hu=>?_,fun i i' a z z'=>?_,fun i a z z2=>?_,fun a z=>P2.env.dom a (sub3 a z),by rw [lA]; exact E1.l1,E1.l2⟩
    ·by_cases hh:∃ kk:Nat,js[kk]?=some (some i)
     ·obtain ⟨kk,hk⟩:=hh;obtain ⟨dd,q1,q2⟩:=c1 kk i hk;have hil:i < en1.length:=by rw [E1.l1,<- E1.l2]; exact (zah.mp q2).1
      rw [m3 js eni en1 i kk hk (fun k' z=>c2 k' kk i z hk) el hil] at hu;obtain ⟨v,d',g1,g2,g3⟩:=P2.env.at_ kk u hu;rw [q1] at g2;cases g2;have hlk:=P2.lk kk (by rw [hl]; have:=iG (n:=0) hk; rw [za4] at this; exact this);rw [hlk] at g1;refine ⟨v,dd,?_,q2,?_⟩
      ·unfold dM at g1;rw [zao,hk] at g1;have g1':(σ[i]?).join=some v:=zat g1;cases q3:σ[i]? with
       | none=>rw [q3] at g1'; cases g1'
       | some o=>rw [q3] at g1'; exact congrArg some g1'
      ·rw [r31 i kk hk];exact Ow.grow sub3 u (fun _ z=>z) g3
     ·rw [jO js eni en1 i fun j z=>hh ⟨j,z⟩] at hu;have ns:∀ j:Nat,js[j]?≠some (some i):=fun j z=>hh ⟨j,z⟩;obtain ⟨v,d',g1,g2,g3⟩:=E1.at_ i u hu;refine ⟨v,d',g1,g2,?_⟩;rw [r32 i ns];refine Ow.mv (G:=R1 i) ⟨fun a o q z=>P2.keep a o q fun j zj=>?_,fun a z=>fL a (sub3 a z)⟩ u (fun _ z=>z) g3;obtain ⟨j',hj',zj⟩:=ric j a zj;rcases z with z | z
      ·exact z (.inl ⟨j',zj⟩)
      ·have:=E1.dj i j' a z zj;subst this;exact ns j hj'
    ·rcases r3c i a z with ⟨j,q,z⟩ | ⟨n,z⟩ <;> rcases r3c i' a z' with ⟨j',q',z'⟩ | ⟨n',z'⟩
     ·have:=P2.env.dj j j' a z z';subst this;rw [q] at q';cases q';rfl
     ·exact absurd (.inr (.inr (.inr ⟨i',z',n'⟩))) (P2.env.dx j a z)
     ·exact absurd (.inr (.inr (.inr ⟨i,z,n⟩))) (P2.env.dx j' a z')
     ·exact E1.dj i i' a z z'
    ·rcases r3c i a z with ⟨j,q,z⟩ | ⟨n,z⟩
     ·refine P2.env.dx j a z ?_;rcases z2 with (z2 | z2) | z2
      ·exact .inr (z2 ▸ DO)
      ·exact .inl z2
      ·exact .inr (.inl z2)
     ·rcases z2 with (z2 | z2) | z2
      ·exact nD a (.inl ⟨i,z⟩) z2
      ·exact P2.fx a z2 (.inr (.inr ⟨i,z,n⟩))
      ·exact E1.dx i a z z2
   have n1:∀ a,H1 a=none->H a=none:=fun a z=>by
    cases q:H a with
    | none=>rfl
    | some o =>
     obtain ⟨o',q'⟩:=P1.dom a o q;rw [z] at q';cases q'
   refine k (.ref D) H2 R3 (fun a=>a=D\/Fa a) ⟨env3,fun a z z2=>?_,fun a o q n=>?_,fun a z=>?_,fun a o q=>?_,fun z=>nomatch z⟩ ⟨D,vs,rfl,.inr ⟨hz,hDl,.inl rfl,Fa,fun b z=>⟨.inr z,fD b z⟩,?_⟩⟩
   ·rcases z with z | z
    ·exact nD a (.inr z2) z
    ·exact P2.fx a z (.inl z2)
   ·refine P2.keep a o (P1.keep a o q n) fun kk z=>?_;obtain ⟨j,_,z⟩:=ric kk a z;rcases P1.own a (.inr ⟨j,z⟩) with ⟨i',z⟩ | z
    ·exact n i' z
    ·rw [q] at z; cases z
   ·have h3:(∃ i,R1 i a)\/H1 a=none:=by
     have h4:(Fa a\/∃ kk,RI2 kk a)->(∃ i,R1 i a)\/H1 a=none:=fun z=>by
      rcases P2.own a z with ⟨kk,z⟩ | z
      ·obtain ⟨j,_,z⟩:=ric kk a z;exact .inl ⟨j,z⟩
      ·exact .inr z
     rcases z with (z | z) | ⟨i,z⟩
     ·exact .inr (z ▸ hD)
     ·exact h4 (.inl z)
     ·rcases r3c i a z with ⟨j,_,z⟩ | ⟨n,z⟩
      ·exact h4 (.inr ⟨j,z⟩)
      ·exact .inl ⟨i,z⟩
    rcases h3 with h3 | h3
    ·exact P1.own a (.inr h3)
    ·exact .inr (n1 a h3)
   ·obtain ⟨o',q'⟩:=P1.dom a o q;exact P2.dom a o' q'
   ·rw [hd];exact Ows.grow sub3 _ (fun _ z=>z) oacc
end
def msk:List Nat->En->En
 | d :: ds,o :: en=>(if d=0 then none else o) :: msk ds en
 | _,_=>[]
def fnF (n:Nat) (dps:List Nat) (b:MS):List PyData->Option (PyData × En):=fun ts=>(b (ts.map some++List.replicate n none)).bind fun fl=>match fl with
 | .rt t en=>some (t,msk dps en)
 | .nx en=>some (.none,msk dps en)
 | .ct _=>none
def nH (dps:List Nat):List Nat:=(List.range dps.length).filter fun j=>dps[j]? != some 0
section
variable {K:PySem.W.Frag} {p p1 p2 q:Bool} {J:Jd} {lk:List Nat} {ds ds0 ds1 ds2 ds' dps:List Nat} {Ox Ox' O O':AS} {H H' H1:Hp} {σ σ':St} {en en' en1 en2:En} {R R' R1:Nat->AS} {d d' d1 d2 dr:Nat} {t t1 t2:PyData} {Q:VK} {f f1 f2:ME} {i:Nat} {v:V} {D:Ends}
def pC:∀ {dps:List Nat} {en:En} {j:Nat} {u:PyData},(msk dps en)[j]?=some (some u)->∃ d,dps[j]?=some d/\d≠0/\en[j]?=some (some u)
 | [],en,j,u,h=>by unfold msk at h; simp at h
 | d :: ds,[],j,u,h=>by unfold msk at h; simp at h
 | d :: ds,o :: en,j,u,h=>by
  unfold msk at h;cases j with
  | zero =>
   by_cases hd:d=0
   ·simp [hd] at h
   ·refine ⟨d,rfl,hd,?_⟩;simpa [hd] using h
  | succ j =>
   have:=pC (dps:=ds) (en:=en) (j:=j) (u:=u) (by simpa using h);simpa using this
def pB:∀ {dps:List Nat} {en:En},dps.length<=en.length->(msk dps en).length=dps.length
 | [],en,_=>by unfold msk; rfl
 | d :: ds,[],h=>by simp at h
 | d :: ds,o :: en,h=>by
  unfold msk;rw [zac,zac,pB (by simpa using h)]
def BP {N:List Str} {vs:List V} {E:XK} {n:Nat} {b:MS} (hn:N.length - dps.length=n) (h:spF K dps dr (fnF n dps b) vs H Q E) :
  tFS K ⟨nH dps,dps++List.replicate n 0,dr,[]⟩ (dps++List.replicate n 0) (dps++List.replicate n 0) b { nx:=fun _ H'=>Q .non H',rt:=Q } (da N vs) H:=by
 obtain ⟨Ox,ts,R,r,outs,e,hf,k⟩:=h;have lv:dps.length=vs.length:=by have:=e.l2; rw [zad] at this; exact this
 have lt:ts.length=vs.length:=by have:=e.l1; rw [zad,zad] at this; exact this
 have hs:da N vs=vs.map some++List.replicate n none:=by unfold da; rw [<- lv,hn]
 unfold fnF at hf;obtain ⟨fl,h1,hf⟩:=zaa.mp hf;have get0:∀ {α:Type} (xs:List α) (i:Nat) (u:α),(xs.map some++List.replicate n none)[i]?=some (some u)->(xs.map some)[i]?=some (some u)/\i < xs.length:=fun xs i u z=>by
  by_cases hi:i < xs.length
  ·rw [zaS (by rw [zad]; exact hi)] at z;exact ⟨z,hi⟩
  ·rw [List.getElem?_append_right (by rw [zad]; omega),List.getElem?_replicate] at z;split at z
   ·cases z
   ·cases z
 have e0:EnvOk K (dps++List.replicate n 0) Ox H (da N vs) (ts.map some++List.replicate n none) R:=by
  rw [hs];refine ⟨fun i u hu=>?_,e.dj,e.dx,e.dom,by simp [lt],by simp [lv]⟩;obtain ⟨hu',hi⟩:=get0 ts i u hu;obtain ⟨v,d,g1,g2,g3⟩:=e.at_ i u hu';refine ⟨v,d,?_,?_,g3⟩
  ·rw [zaS (by rw [zad]; omega)]; exact g1
  ·rw [zaS (by omega)]; exact g2
 have back:∀ {σ' en' H' R' F},PostS K (nH dps) (dps++List.replicate n 0) Ox (da N vs) H R σ' en' H' R' F->Post K false dps Ox (vs.map some) H (ts.map some) R (msk dps en') H' R' F:=fun {σ' en' H' R' F} P=>by
  have l1:=P.env.l1;have l2:=P.env.l2;rw [zae,zaN] at l2;refine ⟨⟨fun j u hu=>?_,P.env.dj,P.env.dx,P.env.dom,by rw [pB (by omega),zad]; exact lv,by rw [zad]; exact lv⟩,P.fx,P.keep,P.own,P.dom,fun z=>nomatch z⟩;obtain ⟨d,a1,a2,a3⟩:=pC hu;obtain ⟨v,d',g1,g2,g3⟩:=P.env.at_ j u a3;have hj:j < dps.length:=(zah.mp a1).1;have hlk:j∈nH dps:=by
   unfold nH;rw [List.mem_filter,List.mem_range];refine ⟨hj,?_⟩;rw [a1];simpa using a2
  rw [P.lk j hlk,hs,zaS (by rw [zad]; omega)] at g1;rw [zaS hj] at g2;exact ⟨v,d',g1,g2,g3⟩
 refine ⟨Ox,_,R,fl,e0,h1,?_⟩;cases fl with
 | nx en2 =>
  cases hf;exact fun σ2 H2 R2 P2=>k .non H2 R2 NoA (back P2) rfl
 | ct en2=>cases hf
 | rt t en2 =>
  cases hf;exact fun v σ2 H2 R2 F P2 o=>k v H2 R2 F (back P2) o
def Post.slot {F G F':AS} {l:Addr} {o2:HO} (P:Post K p ds1 Ox σ H en R en1 H1 R1 F) (hl:R1 i l) (hi:i < en1.length) (hv:σ[i]?=some (some v)) (hd:ds1[i]?=some d)
  (hg:∀ a,G a->R1 i a\/F a) (hf:∀ a,F' a->R1 i a\/F a) (hx:∀ a,G a->¬ F' a)
  (ho:Ow K (Own (fun j=>if j=i then G else R1 j) (U F' Ox)) (upd H1 l o2) t d v G) :
  Post K false ds1 Ox σ H en R (en1.set i (some t)) (upd H1 l o2) (fun j=>if j=i then G else R1 j) F':=by
 have rc:∀ (j:Nat) a,(if j=i then G else R1 j) a->R1 j a\/(j=i/\F a):=fun j a z=>by
  by_cases hj:j=i
  ·rw [if_pos hj] at z;rcases hg a z with z | z
   ·exact .inl (hj ▸ z)
   ·exact .inr ⟨hj,z⟩
  ·rw [if_neg hj] at z; exact .inl z
 have sub:∀ a,Own (fun j=>if j=i then G else R1 j) (U F' Ox) a->Own R1 (U F Ox) a:=fun a z=>by
  rcases z with ⟨j,z⟩ | z | z
  ·rcases rc j a z with z | ⟨_,z⟩
   ·exact .inl ⟨j,z⟩
   ·exact .inr (.inl z)
  ·rcases hf a z with z | z
   ·exact .inl ⟨i,z⟩
   ·exact .inr (.inl z)
  ·exact .inr (.inr z)
 have dom2:∀ a o,H1 a=some o->∃ o',upd H1 l o2 a=some o':=fun a o q=>by
  by_cases ha:a=l
  ·subst ha; exact ⟨_,aw⟩
  ·exact ⟨o,by rw [ay ha]; exact q⟩
 have nl:∀ a o,H1 a=some o->a≠l->upd H1 l o2 a=some o:=fun a o q n=>by rw [ay n]; exact q
 refine ⟨⟨fun j u hu=>?_,fun j j' a z z'=>?_,fun j a z z2=>?_,fun a z=>?_,by rw [zaV]; exact P.env.l1,P.env.l2⟩,fun a z z2=>?_,fun a o q n=>?_,fun a z=>?_,fun a o q=>?_,fun z=>nomatch z⟩
 ·by_cases hj:j=i
  ·subst hj;rw [zaP hi] at hu;cases hu;refine ⟨v,d,hv,hd,?_⟩;rw [if_pos rfl];exact ho
  ·rw [zaO (Ne.symm hj)] at hu;obtain ⟨v',d',g1,g2,g3⟩:=P.env.at_ j u hu;refine ⟨v',d',g1,g2,?_⟩;rw [if_neg hj];refine Ow.mv (G:=R1 j) ⟨fun a o q z=>nl a o q fun za=>?_,fun a z=>.inl (sub a z)⟩ u (fun _ z=>z) g3;subst za;rcases z with z | z
   ·exact z (.inl ⟨i,hl⟩)
   ·exact hj (P.env.dj j i a z hl)
 ·have z0:=z;have z0':=z';by_cases hj:j=i <;> by_cases hj':j'=i
  ·rw [hj,hj']
  ·rw [if_pos hj] at z0; rw [if_neg hj'] at z0';rcases hg a z0 with z1 | z1
   ·exact absurd (P.env.dj i j' a z1 z0') (fun e=>hj' e.symm)
   ·exact absurd (.inl z1) (P.env.dx j' a z0')
  ·rw [if_neg hj] at z0; rw [if_pos hj'] at z0';rcases hg a z0' with z1 | z1
   ·exact absurd (P.env.dj j i a z0 z1) hj
   ·exact absurd (.inl z1) (P.env.dx j a z0)
  ·rw [if_neg hj] at z0; rw [if_neg hj'] at z0';exact P.env.dj j j' a z0 z0'
 ·have z0:=z;by_cases hj:j=i
  ·rw [if_pos hj] at z0;rcases z2 with z2 | z2
   ·exact hx a z0 z2
   ·rcases hg a z0 with z1 | z1
    ·exact P.env.dx i a z1 (.inr z2)
    ·exact P.fx a z1 z2
  ·rw [if_neg hj] at z0;rcases z2 with z2 | z2
   ·rcases hf a z2 with z1 | z1
    ·exact hj (P.env.dj j i a z0 z1)
    ·exact P.env.dx j a z0 (.inl z1)
   ·exact P.env.dx j a z0 (.inr z2)
 ·obtain ⟨o,q⟩:=P.env.dom a (sub a z);exact dom2 a o q
 ·rcases hf a z with z1 | z1
  ·exact P.env.dx i a z1 (.inr z2)
  ·exact P.fx a z1 z2
 ·refine nl a o (P.keep a o q n) fun za=>?_;subst za;rcases P.own a (.inr ⟨i,hl⟩) with ⟨j,z⟩ | z
  ·exact n j z
  ·rw [q] at z; cases z
 ·have:F a\/∃ j,R1 j a:=by
   rcases z with z | ⟨j,z⟩
   ·rcases hf a z with z | z
    ·exact .inr ⟨i,z⟩
    ·exact .inl z
   ·rcases rc j a z with z | ⟨_,z⟩
    ·exact .inr ⟨j,z⟩
    ·exact .inl z
  exact P.own a this
 ·obtain ⟨o',q'⟩:=P.dom a o q;exact dom2 a o' q'
def lf {G F' F:AS} (hg:∀ a,G a->R1 i a\/F a) (hf:∀ a,F' a->R1 i a\/F a):∀ a,Own (fun j=>if j=i then G else R1 j) (U F' Ox) a->Own R1 (U F Ox) a:=fun a z=>by
 rcases z with ⟨j,z⟩ | z | z
 ·by_cases hj:j=i
  ·rw [if_pos hj] at z;rcases hg a z with z | z
   ·exact .inl ⟨i,z⟩
   ·exact .inr (.inl z)
  ·rw [if_neg hj] at z; exact .inl ⟨j,z⟩
 ·rcases hf a z with z | z
  ·exact .inl ⟨i,z⟩
  ·exact .inr (.inl z)
 ·exact .inr (.inr z)
def aM {α:Type} {en:List (Option α)} {i:Nat} {t:α} (h:(en[i]?).join=some t):en[i]?=some (some t):=by
 cases q:en[i]? with
 | none=>rw [q] at h; cases h
 | some o=>rw [q] at h; exact congrArg some h
def Ow.sqL {ts:List PyData} {F:AS} (h:Ow K O H (.list ts) d v F):∃ a vs,v=.ref a/\SqL K H a vs:=by
 obtain ⟨a,vs,e,⟨_,h1,_⟩ | ⟨_,h1,_⟩⟩:=h
 ·exact ⟨a,vs,e,h1.sq⟩
 ·exact ⟨a,vs,e,SqL.of h1⟩
def Ow.ownL {ts:List PyData} {F:AS} (hd:d≠0) (h:Ow K O H (.list ts) d v F):∃ a vs,v=.ref a/\H a=some (.lst vs)/\F a/\∃ F':AS,(∀ b,F' b->F b/\b≠a)/\Ows K O H ts (dn d) vs F':=by
 obtain ⟨a,vs,e,⟨h0,_⟩ | ⟨_,h1,h2,h3⟩⟩:=h
 ·exact absurd h0 hd
 ·exact ⟨a,vs,e,h1,h2,h3⟩
def Ows.past {ts:List PyData} {vs:List V} {F:AS} {l:Addr} {o:HO} (ho:∀ a,O' a->O a) (hl:O l) (hf:∀ b,F b->b≠l) (h:Ows K O H ts d vs F):Ows K O' (upd H l o) ts d vs F :=
 Ows.mv (G:=F) ⟨fun a u q z=>by
  rw [ay]
  ·exact q
  ·intro za;subst za;rcases z with z | z
   ·exact z hl
   ·exact hf a z rfl,fun a z=>.inl (ho a z)⟩ ts (fun _ z=>z) h
def Ow.past {F:AS} {l:Addr} {o:HO} (ho:∀ a,O' a->O a) (hl:O l) (hf:∀ b,F b->b≠l) (h:Ow K O H t d v F):Ow K O' (upd H l o) t d v F :=
 Ow.mv (G:=F) ⟨fun a u q z=>by
  rw [ay]
  ·exact q
  ·intro za;subst za;rcases z with z | z
   ·exact z hl
   ·exact hf a z rfl,fun a z=>.inl (ho a z)⟩ t (fun _ z=>z) h
def bG (i:Nat) (f:ME):ME:=fun en=>match (en[i]?).join with
 | some (.list _)=>(f en).bind fun r=>match (r.2[i]?).join with
  | some (.list ts)=>if ts.length < sizeLine then some (.none,r.2.set i (some (.list (ts++[r.1])))) else none
  | _=>none
 | _=>none
def Hi {c:Nat} (hd:ds1[i]?=some d) (hz:d≠0) (hc:dn d=c) (h:tF K false ds ds1 3 (bG i f) σ H Q):tBM K "list" lD (eZ i) (gF (tF K p ds ds1 c f) m6) σ H Q:=by
 obtain ⟨Ox,en,R,t,en',e,hf,k⟩:=h;unfold bG at hf;split at hf
 case h_2=>cases hf
 next ts0 h0 =>
 obtain ⟨⟨t1,en1⟩,h1,hf⟩:=zaa.mp hf
 dsimp only at hf
 split at hf
 case h_2=>cases hf
 next ts h2 =>
 by_cases hlen:ts.length < sizeLine
 case neg=>rw [if_neg hlen] at hf; cases hf
 rw [if_pos hlen] at hf;cases hf;obtain ⟨v,d0,a1,_,a3⟩:=e.at_ i _ (aM h0);obtain ⟨l0,vs0,e0,sq⟩:=a3.sqL;refine ⟨v,a1,?_,Ox,en,R,t1,en1,e,h1,fun x H1 R1 F P o=>?_⟩
 ·rw [e0]; exact .inl ⟨rfl,vs0,sq⟩
 obtain ⟨v',d',b1,b2,b3⟩:=P.env.at_ i _ (aM h2);rw [a1] at b1;cases b1;rw [hd] at b2;cases b2;obtain ⟨l,vs,el,hl,hr,F',hf',ow⟩:=b3.ownL hz;refine ⟨l,vs,x,el,rfl,hl,by rw [ow.len]; exact hlen,?_⟩;have hi:i < en1.length:=(zah.mp (aM h2)).1;have Fn:∀ a,F a->a≠l:=fun a z z2=>by
  subst z2;exact P.env.dx i a hr (.inl z)
 have sub:=lf (i:=i) (R1:=R1) (Ox:=Ox) (G:=fun a=>R1 i a\/F a) (F':=NoA) (F:=F) (fun _ z=>z) (fun _ z=>z.elim);have Ol:Own R1 (U F Ox) l:=.inl ⟨i,hr⟩;refine k .non (upd H1 l (.lst (vs++[x]))) _ NoA (P.slot (G:=fun a=>R1 i a\/F a) hr hi a1 hd (fun _ z=>z) (fun _ z=>z.elim) (fun _ _ z=>z) ?_) rfl;refine ⟨l,vs++[x],el,.inr ⟨hz,aw,.inl hr,U F' F,fun b z=>?_,?_⟩⟩
 ·rcases z with z | z
  ·exact ⟨.inl (hf' b z).1,(hf' b z).2⟩
  ·exact ⟨.inr z,Fn b z⟩
 ·refine Ows.snoc (Ows.past sub Ol (fun b z=>(hf' b z).2) ow) ?_ fun b z1 z2=>P.env.dx i b (hf' b z1).1 (.inl z2);rw [hc];exact Ow.past sub Ol Fn o
def Ows.out:∀ {ts:List PyData} {vs:List V} {F:AS} {k:Nat} {t:PyData},Ows K O H ts d vs F->ts[k]?=some t ->
  ∃ v,∃ F1 F2:AS,vs[k]?=some v/\(∀ b,F1 b->F b)/\(∀ b,F2 b->F b)/\(∀ b,F1 b->¬ F2 b)/\Ow K O H t d v F1/\Ows K O H (ts.eraseIdx k) d (vs.eraseIdx k) F2
 | [],_,_,k,t,_,h=>by simp at h
 | u :: ts,_,F,k,t,h,hk=>by
  obtain ⟨v,r,F1,F2,e,s1,s2,s3,h4,h5⟩:=h;subst e;cases k with
  | zero =>
   have:u=t:=by simpa using hk
   subst this;exact ⟨v,F1,F2,rfl,s1,s2,s3,h4,h5⟩
  | succ k =>
   obtain ⟨w,G1,G2,g1,g2,g3,g4,g5,g6⟩:=Ows.out (k:=k) h5 (by simpa using hk);refine ⟨w,G1,U F1 G2,by simpa using g1,fun b z=>s2 b (g2 b z),fun b z=>z.elim (s1 b) fun z=>s2 b (g3 b z),fun b z z2=>?_,g5,v,r.eraseIdx k,F1,G2,rfl,fun b=>.inl,fun b=>.inr,fun b z1 z2=>s3 b z1 (g3 b z2),h4,g6⟩;rcases z2 with z2 | z2
   ·exact s3 b z2 (g2 b z)
   ·exact g4 b z z2
def Ia (i:Nat) (f:ME):ME:=fun en=>match (en[i]?).join with
 | some (.list _)=>(f en).bind fun r=>match r.1,(r.2[i]?).join with
  | .int n,some (.list ts)=>if -(2 ^ 63)<=n/\n < 2 ^ 63 then (seqIndex? n ts.length).bind fun k=>(ts[k]?).map fun t=>(t,r.2.set i (some (.list (ts.eraseIdx k)))) else none
  | _,_=>none
 | _=>none
def Ows.rev:∀ {ts:List PyData} {vs:List V} {F:AS},Ows K O H ts d vs F->Ows K O H ts.reverse d vs.reverse F
 | [],_,_,h=>by rw [show _=[] from h]; rfl
 | t :: ts,_,F,h=>by
  obtain ⟨v,r,F1,F2,e,s1,s2,s3,h4,h5⟩:=h;subst e;rw [List.reverse_cons,List.reverse_cons];exact Ows.grow (fun _ z=>z) _ (fun b z=>z.elim (s2 b) (s1 b)) (Ows.snoc h5.rev h4 fun b z1 z2=>s3 b z2 z1)
def Ows.setAt:∀ {ts:List PyData} {vs:List V} {F F2:AS} {k:Nat} {t:PyData} {v:V},Ows K O H ts d vs F->Ow K O H t d v F2->(∀ b,F b->¬ F2 b)->Ows K O H (ts.set k t) d (vs.set k v) (U F F2)
 | [],_,_,_,_,_,_,h,_,_=>by rw [show _=[] from h]; rfl
 | u :: ts,_,F,F2,k,t,v,h,h2,hd=>by
  obtain ⟨w,r,G1,G2,e,s1,s2,s3,h4,h5⟩:=h;subst e;cases k with
  | zero=>exact ⟨v,r,F2,G2,rfl,fun _ z=>.inr z,fun b z=>.inl (s2 b z),fun b z z2=>hd b (s2 b z2) z,h2,h5⟩
  | succ k =>
   refine ⟨w,r.set k v,G1,U G2 F2,rfl,fun b z=>.inl (s1 b z),fun b z=>z.imp (s2 b) id,fun b z z2=>?_,h4,Ows.setAt h5 h2 fun b z=>hd b (s2 b z)⟩;rcases z2 with z2 | z2
   ·exact s3 b z z2
   ·exact hd b (s1 b z) z2
def bY (i:Nat) (fk fe:ME):MS:=fun en=>(fe en).bind fun r=>match (r.2[i]?).join with
 | some _=>(fk r.2).bind fun q=>match q.1,(q.2[i]?).join with
  | .int n,some (.list ts)=>(ixN ts.length n).map fun k=>.nx (q.2.set i (some (.list (ts.set k r.1))))
  | _,_=>none
 | none=>none
def BD {c:Nat} {fk fe:ME} (hd:ds2[i]?=some d) (hz:d≠0) (hc:dn d=c) (h:tFS K J ds ds2 (bY i fk fe) D σ H) :
  lB (tF K p1 ds ds1 c fe) (uI (eZ i) (tF K p2 ds1 ds2 d2 fk) qu) D σ H:=by
 obtain ⟨Ox,en,R,fl,e,hf,k⟩:=h;unfold bY at hf;obtain ⟨⟨t1,en1⟩,h1,hf⟩:=zaa.mp hf
 dsimp only at hf
 split at hf
 case h_2=>cases hf
 next tt h0 =>
 obtain ⟨⟨t2,en2⟩,h2,hf⟩:=zaa.mp hf
 dsimp only at hf
 split at hf
 case h_2=>cases hf
 next n ts h3 =>
 obtain ⟨kk,h4,hf⟩:=zab.mp hf;cases hf;refine ⟨Ox,en,R,t1,en1,e,h1,fun x H1 R1 F1 P1 o1=>?_⟩;obtain ⟨v0,d0,a1,_,_⟩:=P1.env.at_ i tt (aM h0);refine ⟨v0,a1,?_⟩;refine ⟨U F1 Ox,en1,R1,.int n,en2,P1.env,h2,fun y H2 R2 F2 P2 o2=>?_⟩;have P:=P1.trans P2;have o1':=Ow.over P1.env P2 o1;obtain ⟨v',d',b1,b2,b3⟩:=P.env.at_ i _ (aM h3);rw [a1] at b1;cases b1;rw [hd] at b2;cases b2;obtain ⟨l,vs,el,hl,hr,F',hf',ow⟩:=b3.ownL hz;refine ⟨l,vs,n,kk,el,o2,hl,by rw [ow.len]; exact h4,?_⟩;have hi:i < en2.length:=(zah.mp (aM h3)).1;have Fn:∀ a,F1 a->a≠l:=fun a z z2=>by
  subst z2;exact P.env.dx i a hr (.inl (.inl z))
 have gG:∀ a,(fun a=>R2 i a\/F1 a) a->R2 i a\/U F1 F2 a:=fun a z=>z.imp id .inl;have sub:=lf (i:=i) (R1:=R2) (Ox:=Ox) (G:=fun a=>R2 i a\/F1 a) (F':=NoA) (F:=U F1 F2) gG (fun _ z=>z.elim);have Ol:Own R2 (U (U F1 F2) Ox) l:=.inl ⟨i,hr⟩;have PS:=P.slot (G:=fun a=>R2 i a\/F1 a) (F':=NoA) (o2:=.lst (vs.set kk x)) (t:=.list (ts.set kk t1)) hr hi a1 hd gG (fun _ z=>z.elim) (fun _ _ z=>z) ?_
 ·exact k σ _ _ PS.s
 refine ⟨l,vs.set kk x,el,.inr ⟨hz,aw,.inl hr,U F' F1,fun b z=>?_,?_⟩⟩
 ·rcases z with z | z
  ·exact ⟨.inl (hf' b z).1,(hf' b z).2⟩
  ·exact ⟨.inr z,Fn b z⟩
 ·refine Ows.setAt (Ows.past sub Ol (fun b z=>(hf' b z).2) ow) ?_ fun b z1 z2=>P.env.dx i b (hf' b z1).1 (.inl (.inl z2));rw [hc];exact Ow.past sub Ol Fn o1'
def Ows.get:∀ {ts:List PyData} {vs:List V} {F:AS} {k:Nat} {t:PyData},Ows K O H ts d vs F->ts[k]?=some t->∃ v,vs[k]?=some v/\Ow K O H t d v F
 | [],_,_,k,t,_,h=>by simp at h
 | u :: ts,_,F,k,t,h,hk=>by
  obtain ⟨v,r,F1,F2,e,s1,s2,s3,h4,h5⟩:=h;subst e;cases k with
  | zero =>
   have:u=t:=by simpa using hk
   subst this;exact ⟨v,rfl,Ow.grow (fun _ z=>z) u s1 h4⟩
  | succ k =>
   obtain ⟨w,g1,g2⟩:=Ows.get (k:=k) h5 (by simpa using hk);exact ⟨w,by simpa using g1,Ow.grow (fun _ z=>z) t s2 g2⟩
def Ows.atI {ts:List PyData} {vs:List V} {F:AS} {n:Int} {t:PyData} (h:Ows K O H ts d vs F) (ht:L2.atI ts n=some t):∃ v,L2.atI vs n=some v/\Ow K O H t d v F:=by
 unfold L2.atI at ht ⊢;rw [h.len];obtain ⟨k,h1,h2⟩:=zaa.mp ht;obtain ⟨v,g1,g2⟩:=h.get h2;exact ⟨v,by rw [h1]; exact g1,g2⟩
def dW (i:Nat) (f:ME):ME:=fun en=>(en[i]?).join.bind fun _=>(f en).bind fun r=>match r.1,(r.2[i]?).join with
 | .int n,some (.list ts)=>(atI ts n).map fun t=>(t,r.2)
 | _,_=>none
def He (hd:ds1[i]?=some 1) (h:tF K p ds ds1 0 (dW i f) σ H Q):tOp (qv K) (eZ i) (tF K p ds ds1 d1 f) σ H Q:=by
 obtain ⟨Ox,en,R,t,en',e,hf,k⟩:=h;unfold dW at hf;obtain ⟨t0,h0,hf⟩:=zaa.mp hf;obtain ⟨⟨t1,en1⟩,h1,hf⟩:=zaa.mp hf
 dsimp only at hf
 split at hf
 case h_2=>cases hf
 next n ts h2 =>
 obtain ⟨t',h3,hf⟩:=zab.mp hf;cases hf;obtain ⟨v,d0,a1,_,a3⟩:=e.at_ i _ (aM h0);refine ⟨v,a1,Ox,en,R,.int n,_,e,h1,fun x H1 R1 F P o=>?_⟩;obtain ⟨v',d',b1,b2,b3⟩:=P.env.at_ i _ (aM h2);rw [a1] at b1;cases b1;rw [hd] at b2;cases b2;obtain ⟨l,vs,el,hl,hr,F',hf',ow⟩:=b3.ownL (by decide);obtain ⟨w,g1,g2⟩:=ow.atI h3;refine ⟨l,vs,n,w,el,o,SqL.of hl,g1,k w H1 R1 NoA (P.less fun _ z=>z.elim) ?_⟩;exact Ow.any0 _ (Ow.grow (fun a z=>z.imp id fun z=>z.elim (fun z=>False.elim z) Or.inr) _ (fun _ z=>z) g2)
end
def PE.imp {X:Cx} {e:Expr} {t t':TE} (h:PE X e t) (hi:∀ σ H Q,t' σ H Q->t σ H Q):PE X e t':=fun pins s σ H Q I hw=>h pins s σ H Q I (hi _ _ _ hw)
def PT.imp {X:Cx} {e:Expr} {t t':TT} (h:PT X e t) (hi:∀ σ H Q,t' σ H Q->t σ H Q):PT X e t':=fun pins s σ H Q I hw=>h pins s σ H Q I (hi _ _ _ hw)
def PW.imp {X:Cx} {e:Expr} {t t':TT} (h:PW X e t) (hi:∀ σ H Q,t' σ H Q->t σ H Q):PW X e t':=fun wh pins s σ H Q I hw=>h wh pins s σ H Q I (hi _ _ _ hw)
def PA.imp {X:Cx} {e:List Expr} {t t':TA} (h:PA X e t) (hi:∀ σ H Q,t' σ H Q->t σ H Q):PA X e t':=fun pos pins s σ H Q I hw=>h pos pins s σ H Q I (hi _ _ _ hw)
def PS.imp {X:Cx} {e:Stmt} {t t':TS} (h:PS X e t) (hi:∀ D σ H,t' D σ H->t D σ H):PS X e t':=fun pins s σ H D I hw=>h pins s σ H D I (hi _ _ _ hw)
def PSs.imp {X:Cx} {e:List Stmt} {t t':TS} (h:PSs X e t) (hi:∀ D σ H,t' D σ H->t D σ H):PSs X e t':=fun pins s σ H D I hw=>h pins s σ H D I (hi _ _ _ hw)
def PG.imp {X:Cx} {e:Expr} {t t':TG} (h:PG X e t) (hi:∀ v σ H Q,t' v σ H Q->t v σ H Q):PG X e t':=fun pins s σ H v u Q I r hw=>h pins s σ H v u Q I r (hi _ _ _ _ hw)
def PGs.imp {X:Cx} {e:List Expr} {t t':TGs} (h:PGs X e t) (hi:∀ v σ H Q,t' v σ H Q->t v σ H Q):PGs X e t':=fun pins s σ H v u Q I r hw=>h pins s σ H v u Q I r (hi _ _ _ _ hw)
def PI.imp {X:Cx} {tg e:Expr} {t t':TI} (h:PI X tg e t) (hi:∀ σ H R,t' σ H R->t σ H R):PI X tg e t':=fun pins s σ H R I hw=>h pins s σ H R I (hi _ _ _ hw)
def PTs.imp {X:Cx} {e:List Expr} {t t':TT} (h:PTs X e t) (hi:∀ σ H Q,t' σ H Q->t σ H Q):PTs X e t':=fun pins s σ H Q I hw=>h pins s σ H Q I (hi _ _ _ hw)
def aD:Expr->Bool
 | .Starred _ _=>false
 | _=>true
def aJ {e:Expr} {es:List Expr} {env:Env} (h:aD e=true):starEach (e :: es) env=(false,eval e env) :: starEach es env:=by
 cases e <;> first | rfl | cases h
def dO {pos:Pos} {env:Env}:∀ {es:List Expr},es.all aD=true->(backTo pos (starEach es env)).any (·.1)=false
 | [],_=>rfl
 | e :: es,h=>by
  rw [List.all_cons,Bool.and_eq_true] at h;rw [aJ h.1];show (false || (backTo pos (starEach es env)).any (·.1))=false;rw [dO h.2];rfl
section
variable {X:Cx} {K:PySem.W.Frag} {p p1 p2 q:Bool} {ds ds0 ds1 ds2 ds' dsi:List Nat} {d d' d1 d2:Nat} {a b c e:Expr} {es:List Expr} {f f1 f2:ME} {m c1 c2:MT} {fa:MA} {sh:Sh} {pos:Pos} {i:Nat} {x:Str}
def FC {x:Str} (hN:X.N[i]?=some x) (hv:Vis X.env.scope x) (h0:ds[i]?=some 0) (hd:(x == ("__debug__" : Str))=false) (hcd:(x == ("__classdict__" : Str))=false):PE X (.Name x pos) (tF K p ds ds 0 (aa i)) :=
 (bQ hN hv hd hcd).imp fun _ _ _ h=>G7 h0 (kW (fun _=>rfl) h)
def GX {x:Str} (hN:X.N[i]?=some x) (hv:Vis X.env.scope x) (h0:ds[i]?=some d) (hds:ds.set i 0=ds') (hd:(x == ("__debug__" : Str))=false) (hcd:(x == ("__classdict__" : Str))=false):PE X (.Name x pos) (tF K false ds ds' d (eMv i)):=by
 subst hds;exact (bQ hN hv hd hcd).imp fun _ _ _=>HF h0
def FO {n:Int} {j}:PE X (.Constant (.int n) j pos) (tF K p ds ds 3 (eC (.int n))):=pe_int.imp fun _ _ _ h=>f_c (t:=.int n) (fun _ _ _ _=>rfl) (kW (fun _=>rfl) h)
def G6 {n:Bool} {j}:PE X (.Constant (.bool n) j pos) (tF K p ds ds 3 (eC (.bool n))):=pe_bl.imp fun _ _ _ h=>f_c (t:=.bool n) (fun _ _ _ _=>rfl) (kW (fun _=>rfl) h)
def FI {j}:PE X (.Constant .none j pos) (tF K p ds ds 3 (eC .none)):=pe_non.imp fun _ _ _ h=>f_c (t:=.none) (fun _ _ _ _=>rfl) (kW (fun _=>rfl) h)
def FF {n:Str} {j}:PE X (.Constant (.str n) j pos) (tF K p ds ds 3 (eC (.str n))):=pe_str.imp fun _ _ _ h=>f_c (t:=.str n) (fun _ _ _ _=>rfl) (kW (fun _=>rfl) h)
def FE (h:PE X e (tF K p ds ds' d f)) (hd:d'<=d):PE X e (tF K p ds ds' d' f):=h.imp fun _ _ _=>G9 hd
def G4 (h:PE X e (tF K p ds0 ds' d f)) (hd:leD ds0 ds=true):PE X e (tF K false ds ds' d f):=h.imp fun _ _ _=>HH hd
def GW {op:Operator} {g:D->D->Option D} (ho:OpR X (binaryOp op) (rF2 K g d)) (ha:PE X a (tF K p ds ds1 d1 f1)) (hb:PE X b (tF K p ds1 ds2 d2 f2)):PE X (.BinOp a op b pos) (tF K p ds ds2 d (e2 g f1 f2)) :=
 (GH ho ha hb).imp fun _ _ _ h=>mX (by rw [Bool.and_self]; exact h)
def GU {op:UnaryOp} {g:D->Option D} (ho:UnR X (unaryOp op) (rF1 K g d)) (ha:PE X a (tF K p ds ds1 d1 f1)):PE X (.UnaryOp op a pos) (tF K p ds ds1 d (e1 g f1)) :=
 (GF ho ha).imp fun _ _ _=>Hb
def FR {op:CmpOp} {g:D->D->Option D} (ho:OpR X (compareOp op) (rF2 K g d)) (ha:PE X a (tF K p ds ds1 d1 f1)) (hb:PE X b (tF K p ds1 ds2 d2 f2)) (hm:behindInMarks op b=false):PE X (.Compare a [op] [b] pos) (tF K p ds ds2 d (e2 g f1 f2)) :=
 (A7 ho ha hb hm).imp fun _ _ _ h=>mX (by rw [Bool.and_self]; exact h)
def By {op:CmpOp} {g:D->D->Option D} (ho:OpR X (compareOp op) (rF2 K g d)) (ha:PE X a (tF K p ds ds1 d1 f1)) (hb:PE X b (tF K p ds1 ds2 d2 f2)) (hm:behindInMarks op b=false):PT X (.Compare a [op] [b] pos) (tFT K p ds ds2 (tV (e2 g f1 f2))) :=
 (AU ho ha hb hm).imp fun σ H Q h=>by
  obtain ⟨Ox,en,R,t,en',e,hf,k⟩:=nW (d:=d) h;exact mX (by rw [Bool.and_self]; exact ⟨Ox,en,R,t,en',e,hf,k⟩)
def Bv (h:PE X e (tF K p ds ds' d f)) (he:∀ whole,isTrue e X.env whole=(do let v <- whole; standAt e.pos; holding [v] (truthy v))):PT X e (tFT K p ds ds' (tV f)):=(Ex h he).imp fun _ _ _=>nW
def Bs (ha:PT X a (tFT K p ds ds1 c1)):PW X (.BoolOp .And [a] pos) (tFT K p ds ds1 c1):=AR ha
def Fg (ha:PT X a (tFT K p ds ds1 c1)):PW X (.BoolOp .Or [a] pos) (tFT K p ds ds1 c1):=Ev ha
def Fh {rest:List Expr} (ha:PT X a (tFT K p ds ds1 c1)) (hb:PW X (.BoolOp .And (b :: rest) pos) (tFT K p ds1 ds1 c2)):PW X (.BoolOp .And (a :: b :: rest) pos) (tFT K p ds ds1 (cu c1 c2)):=(Ew ha hb).imp fun _ _ _ h=>Fk (by rw [Bool.and_self]; exact h)
def GO {rest:List Expr} (ha:PT X a (tFT K p ds ds1 c1)) (hb:PW X (.BoolOp .Or (b :: rest) pos) (tFT K p ds1 ds1 c2)):PW X (.BoolOp .Or (a :: b :: rest) pos) (tFT K p ds ds1 (bOr c1 c2)):=(GD ha hb).imp fun _ _ _ h=>GP (by rw [Bool.and_self]; exact h)
def Bw (ha:PT X a (tFT K p ds ds1 c1)):PT X (.UnaryOp .Not a pos) (tFT K p ds ds1 (jC c1)):=(Ey ha).imp fun _ _ _=>Fi
def Bz (h:PT X e (tFT K true ds0 ds0 c1)) (hd:leD ds0 ds=true):PT X e (tFT K p ds ds c1):=h.imp fun _ _ _ ⟨Ox,en,R,t,en',e,hf,k⟩=>Fj hd ⟨Ox,en,R,t,en',e,hf,fun H' R' P=>k H' R' ⟨P.env,P.fx,P.keep,P.own,P.dom,fun _=>P.pure rfl⟩⟩
def FG {op} (h:PE X a (tF K p ds ds1 d f)):PE X (.BoolOp op [a] pos) (tF K p ds ds1 d f):=EF h
def FT {rest:List Expr} (ha:PE X a (tF K p ds ds1 d1 f1)) (hb:PE X (.BoolOp .And (b :: rest) pos) (tF K p ds1 ds1 d f2)):PE X (.BoolOp .And (a :: b :: rest) pos) (tF K p ds ds1 d (jx f1 f2)):=(EK ha hb).imp fun _ _ _ h=>Hj (by rw [Bool.and_self]; exact h)
def GV {rest:List Expr} (ha:PE X a (tF K p ds ds1 d1 f1)) (hb:PE X (.BoolOp .Or (b :: rest) pos) (tF K p ds1 ds1 d f2)):PE X (.BoolOp .Or (a :: b :: rest) pos) (tF K p ds ds1 d (eOr f1 f2)):=(GG ha hb).imp fun _ _ _ h=>HE (by rw [Bool.and_self]; exact h)
def FH (ha:PE X a (tF K p ds ds1 d1 f)):PE X (.UnaryOp .Not a pos) (tF K p ds ds1 3 (l6 f)):=(EG ha).imp fun _ _ _=>Hc
def G0 (hc:PT X c (tFT K p ds ds1 c1)) (ha:PE X a (tF K p ds1 ds2 d f1)) (hb:PE X b (tF K p ds1 ds2 d f2)):PE X (.IfExp c a b pos) (tF K p ds ds2 d (eIf c1 f1 f2)):=(ui hc ha hb).imp fun _ _ _ h=>HG (by rw [Bool.and_self,Bool.and_self]; exact h)
def Ca:PA X [] (tFA K p ds ds [] ah):=pa_nil.imp fun _ _ _ ⟨Ox,en,R,t,en',e,hf,k⟩=>sX ⟨Ox,en,R,t,en',e,hf,fun vs H' R' F P=>k vs H' R' F ⟨P.env,P.fx,P.keep,P.own,P.dom,fun _=>P.pure rfl⟩⟩
def uZ (ha:PE X e (tF K p ds ds1 d f)) (hr:PA X es (tFA K p ds1 ds2 sh fa)) (hs:aD e=true):PA X (e :: es) (tFA K p ds ds2 (.inl d :: sh) (ad f fa)):=(bM ha hr (aJ hs)).imp fun _ _ _ h=>lY (by rw [Bool.and_self]; exact h)
def uY {x:Str} (hN:X.N[i]?=some x) (hv:Vis X.env.scope x) (hr:PA X es (tFA K p ds ds2 sh fa)) (hd:(x == ("__debug__" : Str))=false) (hcd:(x == ("__classdict__" : Str))=false) :
  PA X (.Name x pos :: es) (tFA K p ds ds2 (.inr i :: sh) (az i fa)):=(bM (bQ hN hv hd hcd) hr (aJ rfl)).imp fun _ _ _=>B9
def FJ {c:Nat} (h:PA X es (tFA K p ds ds1 sh fa)) (hs:bD c sh=true) (hd:dn d=c) (hz:d≠0):PE X (.List es pos) (tF K p ds ds1 d (aO fa)):=(EH h).imp fun _ _ _=>Hd hs hd hz
def FD {c:Nat} {x1} (h:PA X es (tFA K p ds ds1 sh fa)) (hs:bD c sh=true) (hd:dn d=c):PE X (.Tuple es x1 pos) (tF K p ds ds1 d (cR fa)):=(no h).imp fun _ _ _=>G8 hs hd
def uX {id:String} {x:Str} {px:Pos} {g:List D->Option D} (hc:CallR X (.builtin id) (rFn K g d)) (hg:Gl X x) (hm:X.mg x=none) (hv:bootBuiltins x=some (.builtin id)) (ha:PA X (e :: es) (tFA K p ds ds1 sh fa)) (hsh:bD 0 sh=true) (hn:x≠"__name__") (hdb:(x == ("__debug__" : Str))=false)
  (he:aD e=true) (hpl:es.all aD=true):PE X (.Call (.Name x px) (e :: es) [] pos) (tF K p ds ds1 d (eN g fa)) :=
 (ke hc hg hm hv ha hn hdb (aJ he) (dO hpl)).imp fun _ _ _=>og hsh
def sW {T:String} {x:Str} {px:Pos} {g:List D->Option D} (hc:CallR X (.type T) (rFn K g d)) (hg:Gl X x) (hm:X.mg x=none) (hv:bootBuiltins x=some (.type T)) (ha:PA X (e :: es) (tFA K p ds ds1 sh fa)) (hsh:bD 0 sh=true) (hn:x≠"__name__") (hdb:(x == ("__debug__" : Str))=false)
  (he:aD e=true) (hpl:es.all aD=true):PE X (.Call (.Name x px) (e :: es) [] pos) (tF K p ds ds1 d (eN g fa)) :=
 (rV hc hg hm hv ha hn hdb (aJ he) (dO hpl)).imp fun _ _ _=>og hsh
def G5 {k:Nat} {x:Str} {ps:List Str} {px:Pos} {dps:List Nat} {dr:Nat} {F:List D->Option (D × En)} (G:Kn X.prog X.w X.K X.mg X.base k x ps (spF K dps dr F)) (hr:Room k X.A) (hg:Gl X x) (ha:PA X (e :: es) (tFA K p ds ds1 sh fa)) (hns:gj sh=true) (hcd:cr ds1 sh dps=true) (hdb:(x == ("__debug__" : Str))=false)
  (he:aD e=true) (hpl:es.all aD=true) :
  PE X (.Call (.Name x px) (e :: es) [] pos) (tF K p ds ds1 dr (am F fa)):=(qw G hr hg ha hdb (aJ he) (dO hpl)).imp fun _ _ _ h=>FY hcd (by rw [hns,Bool.and_true]; exact h)
def FP {k:Nat} {x:Str} {ps:List Str} {px:Pos} {dps:List Nat} {dr:Nat} {F:List D->Option (D × En)} (G:Kn X.prog X.w X.K X.mg X.base k x ps (spF K dps dr F)) (hr:Room k X.A) (hg:Gl X x) (ha:PA X (e :: es) (tFA K false ds ds1 sh fa)) (hcd:cr ds1 sh dps=true) (hdb:(x == ("__debug__" : Str))=false)
  (he:aD e=true) (hpl:es.all aD=true) :
  PE X (.Call (.Name x px) (e :: es) [] pos) (tF K false ds ds1 dr (am F fa)):=(qw G hr hg ha hdb (aJ he) (dO hpl)).imp fun _ _ _ h=>FY hcd h
def GZ {g:D->D->Option D} (ho:IxR X (rF2 K g d)) (ha:PE X a (tF K p ds ds1 d1 f1)) (hb:PE X b (tF K p ds1 ds2 d2 f2)) (hs:dw b):PE X (.Subscript a b pos) (tF K p ds ds2 d (e2 g f1 f2)) :=
 (mU ho ha hb hs).imp fun _ _ _ h=>mX (by rw [Bool.and_self]; exact h)
def FM {x:Str} {px:Pos} (hK:X.K=K) (hN:X.N[i]?=some x) (hv:Vis X.env.scope x) (h1:ds1[i]?=some 1) (hb:PE X b (tF K p ds ds1 d1 f)) (hs:dw b) (hd:(x == ("__debug__" : Str))=false) (hcd:(x == ("__classdict__" : Str))=false) :
  PE X (.Subscript (.Name x px) b pos) (tF K p ds ds1 0 (dW i f)):=(mU (HA hK) (bQ hN hv hd hcd) hb hs).imp fun _ _ _=>He h1
def FS {c:Nat} {x:Str} {px apos cpos:Pos} (hK:X.K=K) (hN:X.N[i]?=some x) (hv:Vis X.env.scope x) (h1:ds1[i]?=some d) (he:PE X e (tF K false ds ds1 c f)) (hz:d≠0) (hc:dn d=c)
  (hd:(x == ("__debug__" : Str))=false) (hcd:(x == ("__classdict__" : Str))=false)
  (hbase:attributeBase (.Name x px) "append" X.env (eval (.Name x px) X.env)=eval (.Name x px) X.env)
  (hfew:((backTo cpos (starEach [e] X.env)).all (fun x=>!x.1) && (backToKw cpos (keywordEach [] X.env)).all (fun x=>x.1.isSome) && decide (([e]:List Expr).length+([]:List Keyword).length+(if ([]:List Keyword).isEmpty then 0 else 1) < 30))=true)
  (hline:(apos.endLine == cpos.line)=true) (hs:starEach [e] X.env=[(false,eval e X.env)]) (hplain:(backTo cpos (starEach [] X.env)).any (·.1)=false) :
  PE X (.Call (.Attribute (.Name x px) "append" apos) [e] [] cpos) (tF K false ds ds1 3 (bG i f)):=by
 subst hK;exact (Aq PySem.F.plainAttrs_list PySem.F.slot_list_append PySem.F.type_list_append jm (bQ hN hv hd hcd) (bM he pa_nil hs) hbase hfew hline hs hplain).imp fun _ _ _=>Hi h1 hz hc
def cY:MT:=fun en=>some (true,en)
def Bu:PTs X [] (tFT K p ds ds cY):=pts_nil.imp fun σ H Q ⟨Ox,en,R,b,en',e,hf,k⟩=>by
 cases hf;exact k H R (Post.refl e)
def Bt (hc:PT X c (tFT K p ds ds1 c1)):PTs X [c] (tFT K p ds ds1 c1):=AT hc
def GY {elt tg iter:Expr} {ifs:List Expr} {scope:Scope} {ns:List Str} {js:List (Option Nat)} {fi:MI} {g:MG} {lk:List Nat} {cd:Nat} (B:BlkOkC X scope ns js) (hc:X.calm=true) (hi:PI X tg iter (tFI K p ds ds1 fi))
  (hg:∀ C cl s₀ H₀ fp,PG (aS X scope ns C cl s₀ H₀ fp) tg (tFG K lk dsi dsi g)) (ht:∀ C cl s₀ H₀ fp,PTs (aS X scope ns C cl s₀ H₀ fp) ifs (tFT K true dsi dsi c1)) (he:∀ C cl s₀ H₀ fp,PE (aS X scope ns C cl s₀ H₀ fp) elt (tF K true dsi dsi cd f))
  (hcap:hR ds1 js dsi=true) (hd:dn d=cd) (hz:d≠0) (hlk:lk=hC js 0)
  (hs:∀ x,foldedSetIterable iter X.env x=pure x):PE X (.ListComp elt [⟨tg,iter,ifs,0⟩] scope pos) (tF K p ds ds1 d (eLC true fi g c1 f js)) :=
 (EJ B hc hi hg ht he hs).imp fun _ _ _ h=>FX hcap hd hz hlk (by rw [Bool.and_true]; exact h)
end
def Ix (f:ME) (g:MG):MS:=fun en=>(f en).bind fun r=>(g r.1 r.2).map .nx
section
variable {K:PySem.W.Frag} {p p1 p2 q:Bool} {J:Jd} {ds ds0 ds1 ds2 ds' dsi dps:List Nat} {d d' d1 d2 dr:Nat} {f f1 f2 fk fe:ME} {c1 c2:MT} {fa:MA} {sh:Sh} {i:Nat} {m m1 m2:MS} {g:MG} {lk:List Nat} {σ:St} {H:Hp} {Dn:Ends}
end
section
variable {X:Cx} {K:PySem.W.Frag} {p p1 p2 q:Bool} {J:Jd} {ds ds0 ds1 ds2 ds' dsi dps:List Nat} {d d' d1 d2 dr:Nat} {a b c e tg iter:Expr} {es:List Expr} {st:Stmt} {rest body bodyB:List Stmt} {f f1 f2 fk fe:ME} {c1 c2:MT} {fa:MA} {sh:Sh} {pos px:Pos} {i:Nat} {x:Str} {m m1 m2:MS} {g:MG} {gs:List D->En->Option En} {fi:MI} {lk:List Nat}
def BC:PSs X [] (tFS K J ds ds aW):=pss_nil.imp fun _ _ _=>Fp
def uJ (h1:PS X st (tFS K J ds ds1 m1)) (h2:PSs X rest (tFS K J ds1 ds2 m2)):PSs X (st :: rest) (tFS K J ds ds2 (aj m1 m2)):=(ud h1 h2).imp fun _ _ _=>Fm
def BB (h1:PS X st (tFS K J ds ds1 m1)):PSs X [st] (tFS K J ds ds1 m1):=AV h1
def BA (h:PSs X rest (tFS K J ds ds2 m)) (hd:leD ds1 ds2=true):PSs X rest (tFS K J ds ds1 m):=h.imp fun _ _ _=>sG hd
def BJ (he:PE X e (tF K false ds ds1 d f)) (hs:swapsWith e none pos.line X.env=pure false):PS X (.Expr e pos) (tFS K J ds ds1 (bh f)):=(AW he hs).imp fun _ _ _=>Fs
def BH (he:PE X e (tF K false ds ds1 J.dr f)) (hd:leD J.dsr ds1=true):PS X (.Return (some e) pos) (tFS K J ds ds' (aI f)):=(EB he).imp fun _ _ _=>Fo hd
def Ft (hc:PT X c (tFT K false ds ds1 c1)) (ha:PSs X body (tFS K J ds1 ds2 m1)) (hb:PSs X bodyB (tFS K J ds1 ds2 m2)):PS X (.If c body bodyB pos) (tFS K J ds ds2 (sIf c1 m1 m2)):=(GE hc ha hb).imp fun _ _ _=>GQ
def BG {x:Str} {pos':Pos} (hN:X.N.Nodup) (hi:X.N[i]?=some x) (hx:Loc X.env.scope x) (he:PE X e (tF K false ds ds1 d f)) (hds:ds1.set i d=ds') (hl:i < ds1.length) (hk:i ∉ J.lk)
  (hs:swapsWith e (some (.Name x pos')) pos.line X.env=pure false) (hf:X.fn x=true\/X.env.scope.names.lookup x=some .local) :
  PS X (.Assign [.Name x pos'] e pos) (tFS K J ds ds' (aq i f)):=by
 subst hds;exact (EA hN hi hx he hs hf).imp fun _ _ _=>sH hl hk
def sK {x:Str} {spos pos':Pos} {elt:Expr} {ifs:List Expr} {scope:Scope} {ns:List Str} {js:List (Option Nat)} {cd:Nat} (hN:X.N.Nodup) (hi':X.N[i]?=some x) (hx:X.env.scope.names.lookup x=some .local) (B:BlkOkC X scope ns js) (hc:X.calm=true) (hi:PI X tg iter (tFI K false ds ds1 fi))
  (hg:∀ C cl s₀ H₀ fp,PG (aS X scope ns C cl s₀ H₀ fp) tg (tFG K lk dsi dsi g)) (ht:∀ C cl s₀ H₀ fp,PTs (aS X scope ns C cl s₀ H₀ fp) ifs (tFT K q dsi dsi c1)) (he:∀ C cl s₀ H₀ fp,PE (aS X scope ns C cl s₀ H₀ fp) elt (tF K q dsi dsi cd f))
  (hds:ds1.set i d=ds') (hcap:hR ds1 js dsi=true) (hd:dn d=cd) (hz:d≠0) (hlk:lk=hC js 0) (hl:i < ds1.length) (hk:i ∉ J.lk)
  (hsw:swapsWith (.ListComp elt [⟨tg,iter,ifs,0⟩] scope pos) (some (.Name x pos')) spos.line X.env=pure true)
  (hs:∀ x,foldedSetIterable iter X.env x=pure x):PS X (.Assign [.Name x pos'] (.ListComp elt [⟨tg,iter,ifs,0⟩] scope pos) spos) (tFS K J ds ds' (aq i (eLC q fi g c1 f js))):=by
 subst hds;exact (rP hN hi' hx B hc hi hg ht he hsw hs).imp fun D σ H h=>FX (p:=false) hcap hd hz hlk (sH (p:=false && q) hl hk h)
def uM {c:Nat} {x:Str} {spos:Pos} {k:Expr} (hN:X.N[i]?=some x) (hv:Vis X.env.scope x) (he:PE X e (tF K false ds ds1 c fe)) (hk:PE X k (tF K false ds1 ds2 d2 fk)) (h1:ds2[i]?=some d) (hz:d≠0) (hc:dn d=c)
  (hdb:(x == ("__debug__" : Str))=false) (hcd:(x == ("__classdict__" : Str))=false)
  (ha:∀ v,assign (.Subscript (.Name x px) k spos) X.env v=(do
   let ov <- holding [v] (eval (.Name x px) X.env);let iv <- holding [v,ov] (eval k X.env)
   standAt spos
   holding [v,ov,iv] (setItem ov iv v)
   release [v,ov,iv] []))
  (hs:swapsWithSole [.Subscript (.Name x px) k spos] e pos.line X.env=pure false) (hw:swappedStores [.Subscript (.Name x px) k spos] e X.env=pure none)
  (h2:(assignEach [.Subscript (.Name x px) k spos] X.env).map (·.2)=[assign (.Subscript (.Name x px) k spos) X.env]) :
  PS X (.Assign [.Subscript (.Name x px) k spos] e pos) (tFS K J ds ds2 (bY i fk fe)) :=
 (rQ he (rT (bQ hN hv hdb hcd) hk nb ha) hs hw h2).imp fun _ _ _=>BD h1 hz hc
def uS {x:Str} (hN:X.N.Nodup) (hi:X.N[i]?=some x) (hx:Loc X.env.scope x) (hds:ds.set i 0=ds') (hl:i < ds.length) (hk:i ∉ lk) (hf:X.fn x=true\/X.env.scope.names.lookup x=some .local) :
  PG X (.Name x pos) (tFG K lk ds ds' (gN i)):=by
 subst hds;exact (A4 hN hi hx hf).imp fun _ _ _ _=>BX hl hk
def uQ:PGs X [] (fK K lk ds ds gs0):=pgs_nil.imp fun _ _ _ _=>BV
def sS (h1:PG X e (tFG K lk ds ds1 g)) (h2:PGs X es (fK K lk ds1 ds2 gs)) (hs:(assignEach (e :: es) X.env).map (·.2)=assign e X.env :: (assignEach es X.env).map (·.2)):PGs X (e :: es) (fK K lk ds ds2 (gsC g gs)):=(ug h1 h2 hs).imp fun _ _ _ _=>uR
def jT {g1 g2:MG}:∀ ts en,(∃ en',gsC g1 (gsC g2 gs0) ts en=some en')->ts.length=2:=fun ts en ⟨en',h⟩=>by
 match ts,h with
 | [],h=>cases h
 | [_],h =>
  obtain ⟨_,_,h⟩:=zaa.mp h;cases h
 | [_,_],_=>rfl
 | a :: b :: c :: r,h =>
  obtain ⟨_,_,h⟩:=zaa.mp h;obtain ⟨_,_,h⟩:=zaa.mp h;cases h
def BW {k n:Nat} (hK:X.K=K) (hc:X.calm=true) (h:PGs X es (fK K lk ds ds1 gs)) (hl:∀ ts en,(∃ en',gs ts en=some en')->ts.length=n) (hn:(assignEach es X.env).length=n) (hst:(assignEach es X.env).findIdx? (·.1)=none) :
  PG X (.Tuple es k pos) (tFG K lk ds ds1 (gT gs)):=by
 subst hK;exact (EE hc h hn hst).imp fun _ _ _ _=>FB hl
def BI (hc:X.calm=true) (hi:PI X tg iter (tFI K false ds ds1 fi)) (hg:PG X tg (tFG K J.lk ds1 ds2 g)) (hb:PSs X body (tFS K { J with dsl:=ds1 } ds2 ds1 m)) (hp:PassesOwn (model X.prog X.w) X.A X.env X.xe)
  (hs:∀ x,foldedSetIterable iter X.env x=pure x):PS X (.For tg iter body [] pos) (tFS K J ds ds1 (cC fi g m)):=(EC hp hc hi hg hb hs).imp fun _ _ _=>Fq
def sI (hc:PT X c (tFT K false ds ds1 c1)) (hb:PSs X body (tFS K { J with dsl:=ds } ds1 ds m)) (hp:PassesOwn (model X.prog X.w) X.A X.env X.xe):PS X (.While c body [] pos) (tFS K J ds ds1 (bN c1 m)):=(ue hp hc hb).imp fun _ _ _=>uK
end
def An:D->Option (List D)
 | .list ts=>some ts
 | .tuple ts=>some ts
 | .str z=>some ((li z).map fun c=>.str (mk1 c))
 | _=>none
def cE (f:ME):MI:=fun en=>(f en).bind fun r=>(An r.1).map fun ts=>(ts,r.2)
section
variable {K:PySem.W.Frag} {O O1:AS} {H0 H:Hp} {ts:List D} {vs:List V} {a:Addr} {F:AS}
def bm {O O1:AS} (h1:∀ a o,H0 a=some o->¬ O a->H a=some o) (h2:∀ a,O1 a->O a\/H0 a=none):Mv O O1 NoA H0 H:=⟨fun a o q z=>z.elim (h1 a o q) fun z=>z.elim,h2⟩
def rp (h:FzL K O H0 a vs) (ho:Ows K O H0 ts 0 vs NoA):gx K O H0 (Itl K a) ts:=fun i H O1 h1 h2 h3=>by
 have sq:=(h.mv (bm h1 h2)).sq;refine ⟨fun t ht=>?_,fun hl=>⟨vs,sq,by rw [ho.len]; omega⟩⟩;obtain ⟨v,hv,ov⟩:=ho.get ht;refine ⟨⟨vs,v,sq,hv⟩,fun x H1 ⟨e,y⟩=>?_⟩;subst e;have e2:=y vs sq;rw [hv] at e2;cases e2;exact ⟨fun _ _ q=>q,Ow.mv (bm h1 h2) t (fun _ z=>z) ov⟩
def tO (h:FzT K O H0 a vs) (ho:Ows K O H0 ts 0 vs NoA):gx K O H0 (Itt K a) ts:=fun i H O1 h1 h2 h3=>by
 have sq:=(h.mv (bm h1 h2)).sq;refine ⟨fun t ht=>?_,fun hl=>⟨vs,sq,by rw [ho.len]; omega⟩⟩;obtain ⟨v,hv,ov⟩:=ho.get ht;refine ⟨⟨vs,v,sq,hv⟩,fun x H1 ⟨e,y⟩=>?_⟩;subst e;have e2:=y vs sq;rw [hv] at e2;cases e2;exact ⟨fun _ _ q=>q,Ow.mv (bm h1 h2) t (fun _ z=>z) ov⟩
def tQ {z:Str}:gx K O H0 (Its z) ((li z).map fun c=>.str (mk1 c)):=fun i H O1 h1 h2 h3=>by
 refine ⟨fun t ht=>?_,fun hl=>?_⟩
 ·rw [zao] at ht;obtain ⟨c,hc,e⟩:=zab.mp ht;have hi:i < z.cps.size:=by
   have:=(zah.mp hc).1;simpa [li] using this
  have hc':z.cps[i]?=some c:=by
   have:z.cps.toList[i]?=some c:=hc;simpa using this
  refine ⟨hi,fun x H1 ⟨e1,c',e2,e3⟩=>?_⟩;subst e1 e e3;rw [hc'] at e2;cases e2;exact ⟨fun _ _ q=>q,rfl⟩
 ·have:z.cps.size=i:=by
   rw [zad] at hl;simpa [li] using hl
  show z.cps.size<=i;omega
def tR {lo:Int} {n:Nat}:gx K O H0 (Itr lo n) ((List.range n).map fun k=>.int (lo+(k:Nat))):=fun i H O1 h1 h2 h3=>by
 refine ⟨fun t ht=>?_,fun hl=>?_⟩
 ·rw [zao] at ht;obtain ⟨c,hc,e⟩:=zab.mp ht;have hi:=(zah.mp hc).1;rw [List.length_range] at hi;rw [List.getElem?_range hi] at hc;cases hc;refine ⟨hi,fun x H1 ⟨e1,e2⟩=>?_⟩;subst e1 e e2;exact ⟨fun _ _ q=>q,rfl⟩
 ·rw [zad,List.length_range] at hl;show n<=i;omega
def pk {t:D} {v:V} {i:Nat} {p:Addr} (hp:H p=none) (h3:∀ a,O1 a->∃ o,H a=some o) (ov:Ow K O1 H t 0 v NoA):(∀ a o,H a=some o->upd H p (.tup [.int i,v]) a=some o)/\Ow K O1 (upd H p (.tup [.int (i:Nat),v])) (.tuple [.int i,t]) 0 (.ref p) NoA:=by
 have g:=(bB (o:=.tup [.int i,v]) hp).1;refine ⟨g,p,[.int i,v],rfl,.inl ⟨rfl,⟨aw,fun z=>?_⟩,.int i,[v],NoA,NoA,rfl,fun _ z=>z,fun _ z=>z,fun _ z=>z.elim,rfl,v,[],NoA,NoA,rfl,fun _ z=>z,fun _ z=>z,fun _ z=>z.elim,?_,rfl⟩⟩
 ·obtain ⟨o,q⟩:=h3 p z;rw [hp] at q;cases q
 ·exact Ow.mv (G:=NoA) ⟨fun a o q _=>g a o q,fun a z=>.inl z⟩ t (fun _ z=>z) ov
def cG (ts:List D):List D:=ts.zipIdx.map fun p=>.tuple [.int (p.2:Nat),p.1]
def gQ {i:Nat} {u:D} (h:(cG ts)[i]?=some u):∃ t,ts[i]?=some t/\u=.tuple [.int (i:Nat),t]:=by
 unfold cG at h;rw [zao] at h;obtain ⟨⟨t,k⟩,h1,h2⟩:=zab.mp h;rw [List.getElem?_zipIdx] at h1;obtain ⟨t',h3,h4⟩:=zab.mp h1;cases h4;refine ⟨t,h3,?_⟩;rw [<- h2,za4]
def gP:(cG ts).length=ts.length:=by unfold cG; rw [zad,List.length_zipIdx]
def rA (h:FzL K O H0 a vs) (ho:Ows K O H0 ts 0 vs NoA):gx K O H0 (Ite K a) (cG ts):=fun i H O1 h1 h2 h3=>by
 have sq:=(h.mv (bm h1 h2)).sq;refine ⟨fun u hu=>?_,fun hl=>⟨vs,sq,by rw [gP] at hl; rw [ho.len]; omega⟩⟩;obtain ⟨t,ht,rfl⟩:=gQ hu;obtain ⟨v,hv,ov⟩:=ho.get ht;refine ⟨⟨vs,v,sq,hv⟩,fun x H1 ⟨p,v',e1,hp,e2,y⟩=>?_⟩;have e3:=y vs sq;rw [hv] at e3;cases e3;subst e1 e2;exact pk hp h3 (Ow.mv (bm h1 h2) t (fun _ z=>z) ov)
def qh (h:FzT K O H0 a vs) (ho:Ows K O H0 ts 0 vs NoA):gx K O H0 (ItT K a) (cG ts):=fun i H O1 h1 h2 h3=>by
 have sq:=(h.mv (bm h1 h2)).sq;refine ⟨fun u hu=>?_,fun hl=>⟨vs,sq,by rw [gP] at hl; rw [ho.len]; omega⟩⟩;obtain ⟨t,ht,rfl⟩:=gQ hu;obtain ⟨v,hv,ov⟩:=ho.get ht;refine ⟨⟨vs,v,sq,hv⟩,fun x H1 ⟨p,v',e1,hp,e2,y⟩=>?_⟩;have e3:=y vs sq;rw [hv] at e3;cases e3;subst e1 e2;exact pk hp h3 (Ow.mv (bm h1 h2) t (fun _ z=>z) ov)
end
def bt (fa:MA):MI:=fun en=>(fa en).bind fun r=>match r.1 with
 | [.inl (.int j)]=>if -(2 ^ 62)<=j/\j < 2 ^ 62 then some ((List.range j.toNat).map fun k=>.int (0+(k:Nat)),r.2) else none
 | _=>none
def HZ (fa:MA):MI:=fun en=>(fa en).bind fun r=>match r.1 with
 | [.inl (.int i),.inl (.int j)]=>if -(2 ^ 62)<=i/\i < 2 ^ 62/\-(2 ^ 62)<=j/\j < 2 ^ 62 then some ((List.range (j - i).toNat).map fun k=>.int (i+(k:Nat)),r.2) else none
 | _=>none
def ij (fa:MA):MI:=fun en=>(fa en).bind fun r=>match r.1 with
 | [.inl (.list ts)]=>some (cG ts,r.2)
 | [.inl (.tuple ts)]=>some (cG ts,r.2)
 | _=>none
section
variable {X:Cx} {K:PySem.W.Frag} {p:Bool} {ds ds1:List Nat} {d:Nat} {e tg l:Expr} {f:ME} {fa:MA} {sh:Sh}
def FA (hK:X.K=K) (hl:PE X l (tF K p ds ds1 d f)):PI X tg l (tFI K p ds ds1 (cE f)):=by
 subst hK;intro pins s σ H R I h;obtain ⟨Ox,en,Rg,ts,en',e,hf,k⟩:=h;unfold cE at hf;obtain ⟨⟨t,en1⟩,h1,hf⟩:=zaa.mp hf;obtain ⟨ts',h2,hf⟩:=zab.mp hf;cases hf;refine thn (hl pins s σ H (fun v H1=>∃ R1,Post X.K p ds1 Ox σ H en Rg en1 H1 R1 NoA/\Ow X.K (Own R1 Ox) H1 t 0 v NoA) I ⟨Ox,en,Rg,t,en1,e,h1,fun v H1 R1 F P o=>⟨R1,P.less fun _ z=>z.elim,Ow.letgo P (fun _ z=>z) o⟩⟩) fun v s1 ⟨x,H1,I1,r1,R1,P,o⟩=>?_;cases t with
 | list ts0 =>
  cases h2;obtain ⟨a,vs,e1,⟨_,fz,ow⟩ | ⟨z,_⟩⟩:=o
  ·subst e1;cases r1;obtain ⟨its,rv,pl,hz⟩:=I1.list fz.sq;refine wpAny_pyIter_list pl.isList ?_;refine ⟨s1.heap.objs.size,[s1.heap.objs.size],_,_,H1,rfl,I1.kept (t':=s1.toks) fun b o e=>zaf _ e,rC a _,⟨_,zan _ rfl,rfl,rfl⟩,fun b hb=>?_,k _ H1 R1 P (rp fz ow)⟩;have e:b=s1.heap.objs.size:=by simpa using hb
   subst e;exact I1.fpOk (zav _) (I1.hok.fresh (zav _))
  ·exact absurd rfl z
 | tuple ts0 =>
  cases h2;obtain ⟨a,vs,e1,⟨_,fz,ow⟩ | ⟨z,_⟩⟩:=o
  ·subst e1;cases r1;obtain ⟨its,rv,pl,hz⟩:=I1.tuple fz.sq;refine wpAny_pyIter_tuple (show s1.heap.IsTuple a its.toArray from pl) ?_;refine ⟨s1.heap.objs.size,[s1.heap.objs.size],_,_,H1,rfl,I1.kept (t':=s1.toks) fun b o e=>zaf _ e,qk a _,⟨_,zan _ rfl,rfl,rfl⟩,fun b hb=>?_,k _ H1 R1 P (tO fz ow)⟩;have e:b=s1.heap.objs.size:=by simpa using hb
   subst e;exact I1.fpOk (zav _) (I1.hok.fresh (zav _))
  ·exact absurd rfl z
 | str z =>
  cases h2;have e1:x=.str z:=o;subst e1;obtain ⟨t,rfl⟩:=r1;have fin:∀ (ty:String) (o:Obj),(ty="str_ascii_iterator"\/ty="str_iterator")->(s1.heap.push o).IsStrIter s1.heap.objs.size ty z t 0->PIE X pins σ tg R (.ref s1.heap.objs.size) { s1 with heap:=s1.heap.push o }:=fun ty o hty st=>by
   refine ⟨s1.heap.objs.size,[s1.heap.objs.size],_,_,H1,rfl,I1.kept (t':=s1.toks) fun b o e=>zaf _ e,tT _ z t ty hty,st,fun b hb=>?_,k _ H1 R1 P tQ⟩;have e:b=s1.heap.objs.size:=by simpa using hb
   subst e;exact I1.fpOk (zav _) (I1.hok.fresh (zav _))
  cases ha:z.cps.all (· < 128)
  ·exact wpAny_pyIter_wide ha (fin _ _ (.inr rfl) ⟨_,zan _ rfl,rfl,rfl⟩)
  ·exact wpAny_pyIter_ascii ha (fin _ _ (.inl rfl) ⟨_,zan _ rfl,rfl,rfl⟩)
 | _=>cases h2
def BR {a:Expr} {px pos:Pos} (hg:Gl X "range") (hm:X.mg "range"=none) (ha:PA X [a] (tFA K p ds ds1 sh fa)) (hs:aD a=true):PI X tg (.Call (.Name "range" px) [a] [] pos) (tFI K p ds ds1 (bt fa)) :=
 (rS hg hm ha (aJ hs)).imp fun σ H R ⟨Ox,en,Rg,ts,en',e,hf,k⟩=>by
  unfold bt at hf;obtain ⟨⟨as,en1⟩,h1,hf⟩:=zaa.mp hf;refine ⟨Ox,en,Rg,as,en1,e,h1,fun vs H1 R1 F P o=>?_⟩
  dsimp only at hf
  split at hf
  case h_2=>cases hf
  next j =>
  by_cases hj:-(2 ^ 62)<=j/\j < 2 ^ 62
  case neg=>rw [if_neg hj] at hf; cases hf
  rw [if_pos hj] at hf;cases hf;obtain ⟨v,r,d,dr,F1,F2,e1,e2,_,_,_,o1,o2⟩:=o;obtain ⟨_,o2⟩:=o2;subst e1 o2;have ev:v=.int j:=o1;subst ev;exact ⟨j,rfl,hj.1,hj.2,k _ H1 R1 (P.less fun _ z=>z.elim) tR⟩
def BS {px pos:Pos} {elts:List Expr} {k:Nat} {tp:Pos} (hK:X.K=K) (hg:Gl X "enumerate") (hm:X.mg "enumerate"=none) (ha:PA X [l] (tFA K p ds ds1 sh fa)) (hs:starEach [l] X.env=[(false,eval l X.env)]) :
  PI X (.Tuple elts k tp) (.Call (.Name "enumerate" px) [l] [] pos) (tFI K p ds ds1 (ij fa)):=by
 subst hK;intro pins s σ H R I h;obtain ⟨Ox,en,Rg,ts,en',e,hf,k⟩:=h;unfold ij at hf;obtain ⟨⟨as,en1⟩,h1,hf⟩:=zaa.mp hf;refine Call_ (eK I hg hm boot_enumerate (PyProof.Rows.callWith_type1 (thn (ha pos pins s σ H (fun vs H1=>∃ R1 t v,as=[.inl t]/\vs=[v]/\Post X.K p ds1 Ox σ H en Rg en1 H1 R1 NoA/\Ow X.K (Own R1 Ox) H1 t 0 v NoA) I ⟨Ox,en,Rg,as,en1,e,h1,fun vs H1 R1 F P o=>?_⟩) fun us s1 ⟨vs,H1,I1,r1,R1,t,v,ea,ev,P,o⟩=>?_) hs rfl))
 ·have one:∃ t,as=[.inl t]:=by
   dsimp only at hf
   split at hf
   ·exact ⟨_,rfl⟩
   ·exact ⟨_,rfl⟩
   ·cases hf
  obtain ⟨t,rfl⟩:=one;obtain ⟨v,r,d,dr,F1,F2,e1,e2,s1,_,_,o1,o2⟩:=o;obtain ⟨_,o2⟩:=o2;subst o2;exact ⟨R1,t,v,rfl,e1,P.less fun _ z=>z.elim,Ow.letgo P s1 o1⟩
 subst ea ev;obtain ⟨u,rfl,ru⟩:=cF r1;cases t with
 | list ts0 =>
  cases hf;obtain ⟨a,vs,e1,⟨_,fz,ow⟩ | ⟨z,_⟩⟩:=o
  ·subst e1;cases ru;obtain ⟨its,rv,pl,hz⟩:=I1.list fz.sq;refine call_enumerate_list pl.isList fun h' hE hI hsz hk=>?_;refine wpAny_pyIter_enum hE ?_;have I2:Inv X pins σ H1 { s1 with heap:=h' }:=I1.kept (t':=s1.toks) hk;refine ⟨s1.heap.objs.size+1,[s1.heap.objs.size+1,s1.heap.objs.size],_,_,H1,rfl,I2,rE a _ _ (Nat.succ_ne_self _),⟨⟨_,hE⟩,hI⟩,fun b hb=>?_,k _ H1 R1 P (rA fz ow)⟩;have hb':b=s1.heap.objs.size+1\/b=s1.heap.objs.size:=by simpa using hb
   rcases hb' with rfl | rfl
   ·exact I1.fpOk (Nat.le_succ _) (I1.hok.fresh (Nat.le_succ _))
   ·exact I1.fpOk (zav _) (I1.hok.fresh (zav _))
  ·exact absurd rfl z
 | tuple ts0 =>
  cases hf;obtain ⟨a,vs,e1,⟨_,fz,ow⟩ | ⟨z,_⟩⟩:=o
  ·subst e1;cases ru;obtain ⟨its,rv,pt,hz⟩:=I1.tuple fz.sq;have hT:s1.heap.IsTuple a its.toArray:=pt;have hlt:a < s1.heap.objs.size:=by
    obtain ⟨o,e1,_⟩:=id hT;exact zal e1
   refine mR hT fun h' hE hI hsz hk=>?_;refine wpAny_pyIter_enum hE ?_;have I2:Inv X pins σ H1 { s1 with heap:=h' }:=I1.kept (t':=s1.toks) hk;refine ⟨s1.heap.objs.size+1,[s1.heap.objs.size+1,s1.heap.objs.size],_,_,H1,rfl,I2,qo a _ _ (Nat.succ_ne_self _) (zaw hlt),⟨⟨_,hE⟩,hI⟩,fun b hb=>?_,k _ H1 R1 P (qh fz ow)⟩;have hb':b=s1.heap.objs.size+1\/b=s1.heap.objs.size:=by simpa using hb
   rcases hb' with rfl | rfl
   ·exact I1.fpOk (Nat.le_succ _) (I1.hok.fresh (Nat.le_succ _))
   ·exact I1.fpOk (zav _) (I1.hok.fresh (zav _))
  ·exact absurd rfl z
 | _=>cases hf
end
def NewTo.refl {H:Hp}:NewTo H H NoA:=⟨fun _ _ q=>q,fun _ z=>z.elim⟩
def OpR.imp {X:Cx} {fn:Value->Value->Sem Value} {r r':R2} (h:OpR X fn r) (hi:∀ x y H Q,r' x y H Q->r x y H Q):OpR X fn r':=fun pins s σ H x y v u Q I rx ry q=>h pins s σ H x y v u Q I rx ry (hi _ _ _ _ q)
def OpR.or' {X:Cx} {fn:Value->Value->Sem Value} {r r':R2} (h:OpR X fn r) (h':OpR X fn r'):OpR X fn (fun x y H Q=>r x y H Q\/r' x y H Q):=fun pins s σ H x y v u Q I rx ry q=>q.elim (h pins s σ H x y v u Q I rx ry) (h' pins s σ H x y v u Q I rx ry)
def UnR.imp {X:Cx} {fn:Value->Sem Value} {r r':V->Hp->VK->Prop} (h:UnR X fn r) (hi:∀ x H Q,r' x H Q->r x H Q):UnR X fn r':=fun pins s σ H x v Q I rx q=>h pins s σ H x v Q I rx (hi _ _ _ q)
def CallR.imp {X:Cx} {fn:Value} {r r':List V->Hp->VK->Prop} (h:CallR X fn r) (hi:∀ x H Q,r' x H Q->r x H Q):CallR X fn r':=fun pins s σ H x v Q I rx q=>h pins s σ H x v Q I rx (hi _ _ _ q)
def CallR.or' {X:Cx} {fn:Value} {r r':List V->Hp->VK->Prop} (h:CallR X fn r) (h':CallR X fn r'):CallR X fn (fun x H Q=>r x H Q\/r' x H Q):=fun pins s σ H x v Q I rx q=>q.elim (h pins s σ H x v Q I rx) (h' pins s σ H x v Q I rx)
def IxR.imp {X:Cx} {r r':R2} (h:IxR X r) (hi:∀ x y H Q,r' x y H Q->r x y H Q):IxR X r':=fun value slice pins s σ H x y v u Q I rx ry q=>h value slice pins s σ H x y v u Q I rx ry (hi _ _ _ _ q)
section
variable {X:Cx} {K:PySem.W.Frag} {O:AS} {H:Hp} {ts us:List D} {vs ws:List V} {x y:V} {d:Nat} {Q:VK}
def bO {l:Addr} (hl:H l=none) (hd:∀ a,O a->∃ o,H a=some o) (h:Ows K O H ts 0 vs NoA):NewTo H (upd H l (.lst vs)) (fun b=>b=l)/\Ow K (U (fun b=>b=l) O) (upd H l (.lst vs)) (.list ts) 1 (.ref l) (fun b=>b=l):=by
 refine ⟨bB hl,l,vs,rfl,.inr ⟨by decide,aw,rfl,NoA,fun _ z=>z.elim,?_⟩⟩;refine Ows.mv (G:=NoA) ⟨fun a o q _=>(bB (o:=.lst vs) hl).1 a o q,fun a z=>?_⟩ ts (fun _ z=>z) h;rcases z with z | z
 ·exact .inr (by rw [show a=l from z]; exact hl)
 ·exact .inl z
def Ows.app:∀ {ts:List D} {vs:List V},Ows K O H ts 0 vs NoA->Ows K O H us 0 ws NoA->Ows K O H (ts++us) 0 (vs++ws) NoA
 | [],_,h,h2=>by rw [show _=[] from h]; exact h2
 | t :: ts,_,h,h2=>by
  obtain ⟨v,r,F1,F2,e,_,_,_,h4,h5⟩:=h;subst e;exact ⟨v,r++ws,NoA,NoA,rfl,fun _ z=>z,fun _ z=>z,fun _ z=>z.elim,Ow.any0 t h4,Ows.app (Ows.any0 ts h5) h2⟩
def Ow.lst0 {v:V} (h:Ow K O H (.list ts) 0 v NoA):∃ a vs,v=.ref a/\FzL K O H a vs/\Ows K O H ts 0 vs NoA:=by
 obtain ⟨a,vs,e,⟨_,h1,h2⟩ | ⟨z,_⟩⟩:=h
 ·exact ⟨a,vs,e,h1,h2⟩
 ·exact absurd rfl z
def Ow.tup0 {v:V} (h:Ow K O H (.tuple ts) 0 v NoA):∃ a vs,v=.ref a/\FzT K O H a vs/\Ows K O H ts 0 vs NoA:=by
 obtain ⟨a,vs,e,⟨_,h1,h2⟩ | ⟨z,_⟩⟩:=h
 ·exact ⟨a,vs,e,h1,h2⟩
 ·exact absurd rfl z
def Ows.one {t:D} (h:Ows K O H [t] 0 vs NoA):∃ v,vs=[v]/\Ow K O H t 0 v NoA:=by
 obtain ⟨v,r,F1,F2,e,_,_,_,h4,h5⟩:=h;rw [show r=[] from h5] at e;exact ⟨v,e,Ow.any0 t h4⟩
def aQ:D->D->Option D
 | .int a,.int b=>some (.int (a+b))
 | .str a,.str b=>if a.length+b.length<=sizeLine then some (.str (a++b)) else none
 | _,_=>none
def bj:OpR X (binaryOp .Add) (rF2 K aQ 3):=(op_add.or' qx).imp fun x y H Q ⟨O,a,b,t,oa,ob,hd,hg,k⟩=>by
 cases a with
 | int i=>cases b with
  | int j=>cases hg; exact .inl ⟨i,j,oa,ob,k _ H NoA .refl rfl⟩
  | _=>cases hg
 | str i=>cases b with
  | str j =>
   dsimp only [aQ] at hg
   by_cases hl:i.length+j.length<=sizeLine
   ·rw [if_pos hl] at hg; cases hg; exact .inr ⟨i,j,oa,ob,hl,k _ H NoA .refl rfl⟩
   ·rw [if_neg hl] at hg; cases hg
  | _=>cases hg
 | _=>cases hg
def gq (g:Int->Int->Option D):D->D->Option D
 | .int a,.int b=>g a b
 | _,_=>none
def cf {g:Int->Int->Option D} {a b t:D} (h:gq g a b=some t):∃ i j,a=.int i/\b=.int j/\g i j=some t:=by
 cases a with
 | int i=>cases b with
  | int j=>exact ⟨i,j,rfl,rfl,h⟩
  | _=>cases h
 | _=>cases h
def fL:D->D->Option D:=gq fun a b=>some (.int (a - b))
def gu:OpR X (binaryOp .Sub) (rF2 K fL 3):=op_sub.imp fun x y H Q ⟨O,a,b,t,oa,ob,hd,hg,k⟩=>by
 obtain ⟨i,j,rfl,rfl,h⟩:=cf hg;cases h;exact ⟨i,j,oa,ob,k _ H NoA .refl rfl⟩
instance (i j:Int):Decidable (CMul i j):=by unfold CMul; exact inferInstance
instance (i j:Int):Decidable (fT i j):=by unfold fT; exact inferInstance
instance (i j:Int):Decidable (i6 i j):=by unfold i6; exact inferInstance
def bF:D->D->Option D:=gq fun a b=>if CMul a b then some (.int (a * b)) else none
def gw:OpR X (binaryOp .Mult) (rF2 K bF 3):=op_mul.imp fun x y H Q ⟨O,a,b,t,oa,ob,hd,hg,k⟩=>by
 obtain ⟨i,j,rfl,rfl,h⟩:=cf hg;by_cases hc:CMul i j
 ·rw [if_pos hc] at h; cases h; exact ⟨i,j,oa,ob,hc,k _ H NoA .refl rfl⟩
 ·rw [if_neg hc] at h; cases h
def bZ:D->D->Option D:=gq fun a b=>if fT a b then some (.int (a / b)) else none
def lW:OpR X (binaryOp .FloorDiv) (rF2 K bZ 3):=op_fdiv.imp fun x y H Q ⟨O,a,b,t,oa,ob,hd,hg,k⟩=>by
 obtain ⟨i,j,rfl,rfl,h⟩:=cf hg;by_cases hc:fT i j
 ·rw [if_pos hc] at h; cases h; exact ⟨i,j,oa,ob,hc,k _ H NoA .refl rfl⟩
 ·rw [if_neg hc] at h; cases h
def bp:D->D->Option D:=gq fun a b=>if 0 < b then some (.int (a % b)) else none
def fE:OpR X (binaryOp .Mod) (rF2 K bp 3):=op_mod.imp fun x y H Q ⟨O,a,b,t,oa,ob,hd,hg,k⟩=>by
 obtain ⟨i,j,rfl,rfl,h⟩:=cf hg;by_cases hc:0 < j
 ·rw [if_pos hc] at h; cases h; exact ⟨i,j,oa,ob,hc,k _ H NoA .refl rfl⟩
 ·rw [if_neg hc] at h; cases h
def lE:D->D->Option D:=gq fun a b=>if i6 a b then some (.int (a ^ b.toNat)) else none
def Fw:OpR X (binaryOp .Pow) (rF2 K lE 3):=op_pow.imp fun x y H Q ⟨O,a,b,t,oa,ob,hd,hg,k⟩=>by
 obtain ⟨i,j,rfl,rfl,h⟩:=cf hg;by_cases hc:i6 i j
 ·rw [if_pos hc] at h; cases h; exact ⟨i,j,oa,ob,hc,k _ H NoA .refl rfl⟩
 ·rw [if_neg hc] at h; cases h
def ltI:D->D->Option D:=gq fun a b=>some (.bool (decide (a < b)))
def leI:D->D->Option D:=gq fun a b=>some (.bool (decide (a<=b)))
def gtI:D->D->Option D:=gq fun a b=>some (.bool (decide (b < a)))
def geI:D->D->Option D:=gq fun a b=>some (.bool (decide (b<=a)))
def mW:OpR X (compareOp .Lt) (rF2 K ltI 3):=op_lt.imp fun x y H Q ⟨O,a,b,t,oa,ob,hd,hg,k⟩=>by
 obtain ⟨i,j,rfl,rfl,h⟩:=cf hg;cases h;exact ⟨i,j,oa,ob,k _ H NoA .refl rfl⟩
def AD:OpR X (compareOp .LtE) (rF2 K leI 3):=op_le.imp fun x y H Q ⟨O,a,b,t,oa,ob,hd,hg,k⟩=>by
 obtain ⟨i,j,rfl,rfl,h⟩:=cf hg;cases h;exact ⟨i,j,oa,ob,k _ H NoA .refl rfl⟩
def GS:OpR X (compareOp .Gt) (rF2 K gtI 3):=op_gt.imp fun x y H Q ⟨O,a,b,t,oa,ob,hd,hg,k⟩=>by
 obtain ⟨i,j,rfl,rfl,h⟩:=cf hg;cases h;exact ⟨i,j,oa,ob,k _ H NoA .refl rfl⟩
def AE:OpR X (compareOp .GtE) (rF2 K geI 3):=op_ge.imp fun x y H Q ⟨O,a,b,t,oa,ob,hd,hg,k⟩=>by
 obtain ⟨i,j,rfl,rfl,h⟩:=cf hg;cases h;exact ⟨i,j,oa,ob,k _ H NoA .refl rfl⟩
def lU:D->Bool
 | .none=>true
 | _=>false
def nS {a:D} {F:AS} (h:Ow K O H a d x F):decide (x=.non)=lU a:=by
 cases a with
 | none=>rw [show x=.non from h]; rfl
 | bool b=>rw [show x=.bl b from h]; rfl
 | int b=>rw [show x=.int b from h]; rfl
 | str b=>rw [show x=.str b from h]; rfl
 | list ts=>obtain ⟨a,vs,e,_⟩:=h; rw [e]; rfl
 | tuple ts=>obtain ⟨a,vs,e,_⟩:=h; rw [e]; rfl
 | dict ts=>obtain ⟨a,vs,e,_⟩:=h; rw [e]; rfl
def isN:D->D->Option D
 | a,.none=>some (.bool (lU a))
 | _,_=>none
def gi:D->D->Option D
 | a,.none=>some (.bool (!lU a))
 | _,_=>none
def kS:OpR X (compareOp .Is) (rF2 K isN 3):=op_isN.imp fun x y H Q ⟨O,a,b,t,oa,ob,hd,hg,k⟩=>by
 cases b with
 | none=>cases hg; exact ⟨ob,by rw [nS oa]; exact k _ H NoA .refl rfl⟩
 | _=>cases hg
def lV:OpR X (compareOp .IsNot) (rF2 K gi 3):=op_notN.imp fun x y H Q ⟨O,a,b,t,oa,ob,hd,hg,k⟩=>by
 cases b with
 | none=>cases hg; exact ⟨ob,by rw [nS oa]; exact k _ H NoA .refl rfl⟩
 | _=>cases hg
def IC:D->D->Option D
 | .str a,.str b=>some (.bool (sC b a))
 | _,_=>none
def HU:D->D->Option D
 | .str a,.str b=>some (.bool (!sC b a))
 | _,_=>none
def ixA:D->D->Option D
 | .list ts,.int n=>atI ts n
 | .tuple ts,.int n=>atI ts n
 | .str z,.int n=>if z.length<=sizeLine then (atI z.cps.toList n).map fun c=>.str (mk1 c) else none
 | _,_=>none
def gK (hK:X.K=K):IxR X (rF2 K ixA 0):=by
 subst hK;refine ix_seq.imp fun x y H Q ⟨O,a,b,t,oa,ob,hd,hg,k⟩=>?_;cases b with
 | int n =>
  cases a with
  | list ts =>
   obtain ⟨a,vs,e,fz,ow⟩:=oa.lst0;obtain ⟨v,h1,h2⟩:=ow.atI hg;exact .inl ⟨a,vs,n,v,e,ob,fz.sq,h1,k v H NoA .refl (by rw [gy]; exact h2)⟩
  | tuple ts =>
   obtain ⟨a,vs,e,fz,ow⟩:=oa.tup0;obtain ⟨v,h1,h2⟩:=ow.atI hg;exact .inr (.inl ⟨a,vs,n,v,e,ob,fz.sq,h1,k v H NoA .refl (by rw [gy]; exact h2)⟩)
  | str z =>
   dsimp only [ixA] at hg
   by_cases hl:z.length<=sizeLine
   ·rw [if_pos hl] at hg;obtain ⟨c,h1,h2⟩:=zab.mp hg;cases h2;exact .inr (.inr ⟨z,n,c,oa,ob,hl,h1,k _ H NoA .refl rfl⟩)
   ·rw [if_neg hl] at hg; cases hg
  | _=>cases hg
 | _=>cases a <;> cases hg
def ixT:D->D->Option D
 | .str z,.int n=>if z.length<=sizeLine then (atI z.cps.toList n).map fun c=>.str (mk1 c) else none
 | _,_=>none
def jD:D->D->Option D
 | .list a,.list b=>if a.length+b.length<=sizeLine then some (.list (a++b)) else none
 | _,_=>none
def IG:D->D->Option D
 | .tuple a,.tuple b=>if a.length+b.length<=sizeLine then some (.tuple (a++b)) else none
 | _,_=>none
end
def grd {α:Type} (c:Prop) [Decidable c] (t:α):Option α:=if c then some t else none
def cj {α:Type} {c:Prop} [Decidable c] {t u:α} (h:grd c t=some u):c/\t=u:=by
 unfold grd at h;by_cases hc:c
 ·rw [if_pos hc] at h; exact ⟨hc,zat h⟩
 ·rw [if_neg hc] at h; cases h
section
variable {X:Cx} {K:PySem.W.Frag} {O:AS} {H:Hp} {ts us:List D} {vs ws:List V} {x y:V} {d:Nat} {Q:VK}
def GC (K:PySem.W.Frag):R2:=fun x y H Q=>∃ l b xs zs,x=.ref l/\y=.ref b/\SqL K H l xs/\SqL K H b zs/\xs.length+zs.length<=sizeLine/\∀ p,H p=none->Q (.ref p) (upd H p (.lst (xs++zs)))
def op_catL:OpR X (binaryOp .Add) (GC X.K):=by
 intro pins s σ H x y v u Q I rx ry h;obtain ⟨l,b,xs,zs,rfl,rfl,hH,hB,hz,q⟩:=h;cases rx;cases ry;obtain ⟨its,r,⟨⟨c1,dd,da1,sl⟩,n,ho,hc,hdd,hda⟩,_⟩:=I.list hH;obtain ⟨its2,r2,⟨⟨c2,dd2,da2,sl2⟩,n2,ho2,hc2,hdd2,hda2⟩,_⟩:=I.list hB;have hl:=r.length;have hl2:=r2.length;simp only at hc hda hc2 hda2;subst hc hda hc2 hda2;refine concat_meets ⟨_,ho,rfl⟩ ⟨_,ho2,rfl⟩ noFill_list_add seq_list_add PySem.F.slot_list_add PySem.F.entry_list_add (PySem.F.args_list_add_2 _ _) (list_addW l b its.toArray its2.toArray n n2 dd dd2 sl sl2 (by simp only [zai]; omega)) ⟨ho,ho2,?_⟩;have ea:its.toArray++its2.toArray=(its++its2).toArray:=by simp
 rw [ea];exact ⟨.ref _,_,I.lnew (t':=s.toks) (r.append r2) (by rw [zae]; omega),rfl,q _ I.fresh⟩
def pQ (hK:X.K=K):OpR X (binaryOp .Add) (rF2 K jD 1):=by
 subst hK;refine op_catL.imp fun x y H Q ⟨O,a,b,t,oa,ob,hd,hg,k⟩=>?_;cases a with
 | list ts=>cases b with
  | list us =>
   dsimp only [jD] at hg
   by_cases hl:ts.length+us.length<=sizeLine
   case neg=>rw [if_neg hl] at hg; cases hg
   rw [if_pos hl] at hg;cases hg;obtain ⟨a,vs,e1,f1,w1⟩:=oa.lst0;obtain ⟨b,ws,e2,f2,w2⟩:=ob.lst0;refine ⟨a,b,vs,ws,e1,e2,f1.sq,f2.sq,by rw [w1.len,w2.len]; exact hl,fun p hp=>?_⟩;obtain ⟨n1,n2⟩:=bO hp hd (w1.app w2);exact k _ _ _ n1 n2
  | _=>cases hg
 | _=>cases hg
def Gz (K:PySem.W.Frag):R2:=fun x y H Q=>∃ l k xs,x=.ref l/\y=.int k/\SqL K H l xs/\-(2 ^ 63)<=k/\k < 2 ^ 63/\xs.length * k.toNat<=sizeLine/\∀ p,H p=none->Q (.ref p) (upd H p (.lst (List.replicate k.toNat xs).flatten))
def op_repL:OpR X (binaryOp .Mult) (Gz X.K):=by
 intro pins s σ H x y v u Q I rx ry h;obtain ⟨l,k,xs,rfl,rfl,hH,h1,h2,hz,q⟩:=h;cases rx;obtain ⟨t,rfl⟩:=ry;obtain ⟨its,r,⟨⟨c1,dd,da1,sl⟩,n,ho,hc,hdd,hda⟩,_⟩:=I.list hH;have hl:=r.length;simp only at hc hda;subst hc hda;have hlen:its.toArray.size * k.toNat<=sizeLine:=by rw [zai,<- hl]; exact hz
 have hcap:¬ its.toArray.size * k.toNat > (2 ^ 63 - 1) / 8:=by
  have:(sizeLine:Nat)<=(2 ^ 63 - 1) / 8:=by decide
  omega
 have hfit:¬ (!Builtin.List.listFitsIndex k)=true:=by
  rw [fitsIndex_both h1 h2];exact Bool.false_ne_true
 have hlong:¬ Builtin.List.listTooLong (its.toArray.size * k.toNat)=true:=by
  rw [ul hlen];exact Bool.false_ne_true
 refine wpAny_binaryOp_repeat_ref (T:="list") (U:="int") (by decide) ⟨_,ho,rfl⟩ (fun s'=>typeIs_int s' k t) noFill_list_mul F.fills_int_mul F.slot_int_rmul repeat_list F.slot_int_index.lookup
  (call_meets F.slot_int_rmul (typeIs_int s k t) F.entry_int_rmul (F.args_int_rmul_2 _ _) (lm_int_rmul_list_any k t l its.toArray n dd sl)
   ⟨ho,rfl,⟨_,ho,rfl⟩,call_meets F.slot_list_mul ⟨_,ho,rfl⟩ F.entry_list_mul (F.args_list_mul_2 _ _)
    (lm_list_mul_any l its.toArray n dd sl k t hfit hcap hlong) ⟨ho,?_⟩⟩)
 rw [listMul_foldl_if];exact ⟨.ref _,_,I.lnew (t':=s.toks) (r.rep k.toNat) (by rw [Bg,Nat.mul_comm]; exact hz),rfl,q _ I.fresh⟩
def Ows.rep (h:Ows K O H ts 0 vs NoA):∀ n:Nat,Ows K O H (List.replicate n ts).flatten 0 (List.replicate n vs).flatten NoA
 | 0=>rfl
 | n+1=>by
  rw [List.replicate_succ,List.replicate_succ,List.flatten_cons,List.flatten_cons];exact h.app (Ows.rep h n)
def qC:D->D->Option D
 | .list ts,.int k=>grd (-(2 ^ 63)<=k/\k < 2 ^ 63/\ts.length * k.toNat<=sizeLine) (.list (List.replicate k.toNat ts).flatten)
 | _,_=>none
def pO (hK:X.K=K):OpR X (binaryOp .Mult) (rF2 K qC 1):=by
 subst hK;refine op_repL.imp fun x y H Q ⟨O,a,b,t,oa,ob,hd,hg,k⟩=>?_;cases a with
 | list ts=>cases b with
  | int n =>
   obtain ⟨⟨c1,c2,c3⟩,rfl⟩:=cj hg;obtain ⟨a,vs,e1,f1,w1⟩:=oa.lst0;refine ⟨a,n,vs,e1,ob,f1.sq,c1,c2,by rw [w1.len]; exact c3,fun p hp=>?_⟩;obtain ⟨n1,n2⟩:=bO hp hd (w1.rep n.toNat);exact k _ _ _ n1 n2
  | _=>cases hg
 | _=>cases hg
def IB:D->D->Option D
 | .str z,.int k=>grd (z.length<=4000/\-(2 ^ 63)<=k/\k<=4000) (.str (Txt.mul z k))
 | _,_=>none
def lM:D->Option D
 | .int i=>some (.int (-i))
 | _=>none
def sM:UnR X (unaryOp .USub) (rF1 K lM 3):=un_neg.imp fun x H Q ⟨O,a,t,oa,hd,hg,k⟩=>by
 cases a with
 | int i=>cases hg; exact ⟨i,oa,k _ H NoA .refl rfl⟩
 | _=>cases hg
def br:List D->Option D
 | [.list ts]=>some (.int ts.length)
 | [.tuple ts]=>some (.int ts.length)
 | [.str z]=>grd (z.length<=sizeLine) (.int z.length)
 | _=>none
def Fx (hK:X.K=K):CallR X (.builtin "len") (rFn K br 3):=(Hz hK).imp fun xs H Q ⟨O,as,t,oa,hd,hg,k⟩=>by
 match as,hg with
 | [.list ts],hg =>
  cases hg;obtain ⟨v,rfl,o⟩:=oa.one;obtain ⟨a,vs,rfl,fz,w⟩:=o.lst0;exact ⟨_,_,rfl,.inl ⟨vs,fz.sq,rfl⟩,by rw [w.len]; exact k _ H NoA .refl rfl⟩
 | [.tuple ts],hg =>
  cases hg;obtain ⟨v,rfl,o⟩:=oa.one;obtain ⟨a,vs,rfl,fz,w⟩:=o.tup0;exact ⟨_,_,rfl,.inr ⟨vs,fz.sq,rfl⟩,by rw [w.len]; exact k _ H NoA .refl rfl⟩
 | [.str z],hg =>
  obtain ⟨c,rfl⟩:=cj hg;obtain ⟨v,rfl,o⟩:=oa.one;exact ⟨_,_,rfl,by rw [show v=.str z from o]; exact ⟨c,rfl⟩,k _ H NoA .refl rfl⟩
def iR:List D->Option D
 | [.int i]=>some (.int (if i < 0 then -i else i))
 | _=>none
def sO:CallR X (.builtin "abs") (rFn K iR 3):=call_abs.imp fun xs H Q ⟨O,as,t,oa,hd,hg,k⟩=>by
 match as,hg with
 | [.int i],hg =>
  cases hg;obtain ⟨v,rfl,o⟩:=oa.one;exact ⟨i,by rw [show v=.int i from o],k _ H NoA .refl rfl⟩
def Io:List D->Option D
 | [.int i,.int j]=>some (.int (if j > i then j else i))
 | _=>none
def Im:List D->Option D
 | [.int i,.int j]=>some (.int (if j < i then j else i))
 | _=>none
def gp:List D->Option D
 | [.int i]=>some (.int i)
 | [.bool b]=>some (.int (if b then 1 else 0))
 | _=>none
def sN:CallR X (.type "int") (rFn K gp 3):=call_int1.imp fun xs H Q ⟨O,as,t,oa,hd,hg,k⟩=>by
 match as,hg with
 | [.int i],hg =>
  cases hg;obtain ⟨v,rfl,o⟩:=oa.one;exact .inl ⟨i,by rw [show v=.int i from o],k _ H NoA .refl rfl⟩
 | [.bool i],hg =>
  cases hg;obtain ⟨v,rfl,o⟩:=oa.one;exact .inr ⟨i,by rw [show v=.bl i from o],k _ H NoA .refl rfl⟩
def jQ (z:Str):List D:=(li z).map fun c=>.str (mk1 c)
def nq {z:Str}:Ows K O H (jQ z) 0 (db z) NoA:=by
 unfold jQ db;show Ows K O H ((li z).map fun c=>.str (mk1 c)) 0 ((li z).map sgn) NoA;generalize li z=l
 induction l with
 | nil=>rfl
 | cons c r ih=>exact ⟨sgn c,r.map sgn,NoA,NoA,rfl,fun _ z=>z,fun _ z=>z,fun _ z=>z.elim,rfl,ih⟩
def gI:List D->Option D
 | [.list ts]=>some (.list ts)
 | [.tuple ts]=>some (.list ts)
 | [.str z]=>grd (z.cps.size<=sizeLine) (.list (jQ z))
 | _=>none
def pP (hK:X.K=K) (hc:X.calm=true):CallR X (.type "list") (rFn K gI 1):=((Bn hK).or' (me hc)).imp fun xs H Q ⟨O,as,t,oa,hd,hg,k⟩=>by
 match as,hg with
 | [.list ts],hg =>
  cases hg;obtain ⟨v,rfl,o⟩:=oa.one;obtain ⟨a,vs,rfl,fz,w⟩:=o.lst0;exact .inl ⟨a,vs,rfl,.inl fz.sq,fun l hl=>k _ _ _ (bO hl hd w).1 (bO hl hd w).2⟩
 | [.tuple ts],hg =>
  cases hg;obtain ⟨v,rfl,o⟩:=oa.one;obtain ⟨a,vs,rfl,fz,w⟩:=o.tup0;exact .inl ⟨a,vs,rfl,.inr fz.sq,fun l hl=>k _ _ _ (bO hl hd w).1 (bO hl hd w).2⟩
 | [.str z],hg =>
  obtain ⟨c,rfl⟩:=cj hg;obtain ⟨v,rfl,o⟩:=oa.one;exact .inr ⟨z,by rw [show v=.str z from o],c,fun l hl=>k _ _ _ (bO (K:=K) hl hd nq).1 (bO hl hd nq).2⟩
def Iv:List D->Option D
 | [.list ts]=>some (.tuple ts)
 | [.tuple ts]=>some (.tuple ts)
 | _=>none
def gf:List D->Option (List Bool)
 | []=>some []
 | .bool b :: r=>(gf r).map (b :: ·)
 | _ :: _=>none
def mx:∀ {ts:List D} {vs:List V} {bs:List Bool},Ows K O H ts 0 vs NoA->gf ts=some bs->vs=bs.map V.bl
 | [],_,_,h,hb=>by cases hb; exact h
 | .bool b :: r,_,_,h,hb=>by
  obtain ⟨v,w,F1,F2,e,_,_,_,h4,h5⟩:=h;obtain ⟨bs',h6,h7⟩:=zab.mp hb;subst e h7;rw [show v=.bl b from h4,mx (Ows.any0 r h5) h6];rfl
 | .none :: _,_,_,_,hb=>by cases hb
 | .int _ :: _,_,_,_,hb=>by cases hb
 | .str _ :: _,_,_,_,hb=>by cases hb
 | .list _ :: _,_,_,_,hb=>by cases hb
 | .tuple _ :: _,_,_,_,hb=>by cases hb
 | .dict _ :: _,_,_,_,hb=>by cases hb
def ku:List D->Option D
 | [.list ts]=>(gf ts).map fun bs=>.bool (bs.all id)
 | _=>none
def Fy (hK:X.K=K) (hc:X.calm=true):CallR X (.builtin "all") (rFn K ku 3):=(HB hK hc).imp fun xs H Q ⟨O,as,t,oa,hd,hg,k⟩=>by
 match as,hg with
 | [.list ts],hg =>
  obtain ⟨bs,h1,rfl⟩:=zab.mp hg;obtain ⟨v,rfl,o⟩:=oa.one;obtain ⟨a,vs,rfl,fz,w⟩:=o.lst0;have e:=mx w h1;subst e;exact ⟨a,bs,rfl,fz.sq,k _ H NoA .refl rfl⟩
def tyN:D->String
 | .none=>"NoneType" | .bool _=>"bool" | .int _=>"int" | .str _=>"str" | .list _=>"list" | .tuple _=>"tuple" | .dict _=>"dict"
def aB (n T:String):Bool:=n == T || (n == "bool" && T == "int")
def lT {T:String} (hT:T∈["int", "bool", "str", "list", "tuple", "dict"]) (a:D):PySem.W.kitOne K (.type (tyN a)) (.type T)=some (aB (tyN a) T):=by
 simp only [zay,List.not_mem_nil,or_false] at hT;rcases hT with rfl | rfl | rfl | rfl | rfl | rfl <;> cases a <;> rfl
def isX:D->Bool
 | .dict [(.none,.str _)]=>true
 | _=>false
def GB (K:PySem.W.Frag):List V->Hp->VK->Prop:=fun xs H Q=>∃ x T,∃ (O:AS) (a:D),xs=[x,.ty T]/\Ow K O H a 0 x NoA/\isX a=false/\T∈["int", "bool", "str", "list", "tuple", "dict"]/\Q (.bl (aB (tyN a) T)) H
def tG:CallR X (.builtin "isinstance") (GB X.K):=by
 intro pins s σ H xs us Q I r h;obtain ⟨x,T,O,a,rfl,oa,hX,hT,q⟩:=h;have base:∀ ty,TyOf X.K H x (.type ty)->tyN a=ty->wpAny (model X.prog X.w) X.A (call (.builtin "isinstance") us) (EP X pins σ Q) X.xe s:=fun ty h1 h2=>by
  refine u8 pins s σ H _ us Q I r ⟨x,.type ty,T,aB (tyN a) T,rfl,h1,?_,q⟩;rw [<- h2];exact lT hT a
 cases a with
 | none=>exact base _ (by rw [show x=.non from oa]; exact .non) rfl
 | bool b=>exact base _ (by rw [show x=.bl b from oa]; exact .bl b) rfl
 | int b=>exact base _ (by rw [show x=.int b from oa]; exact .int b) rfl
 | str b=>exact base _ (by rw [show x=.str b from oa]; exact .str b) rfl
 | tuple ts =>
  obtain ⟨p,vs,rfl,fz,w⟩:=oa.tup0;exact base _ (.tup fz.1) rfl
 | dict ts =>
  obtain ⟨p,vs,rfl,⟨_,h1,_⟩ | ⟨_,h1,_⟩ | ⟨_,⟨kk,b,_,h1,_⟩ | ⟨cn,C,h0,_⟩⟩⟩:=oa
  ·exact base _ (.dK h1) rfl
  ·exact base _ (.dK (.inl h1)) rfl
  ·exact base _ (.dT h1) rfl
  ·subst h0; cases hX
 | list ts =>
  obtain ⟨p,vs,rfl,fz,w⟩:=oa.lst0;obtain ⟨u,u2,rfl,r1,r2⟩:=r.two;cases r1;cases r2;obtain ⟨its,rv,pl,_⟩:=I.list fz.sq;have e:=lT (K:=X.K) hT (.list ts);obtain ⟨o,n,h1,h2,_⟩:=pl;exact PySem.W.kia_one PySem.W.kitx_list I.kIn ⟨o,h1,h2⟩ e (fun z=>nomatch z) fun tk=>⟨.bl _,H,I.tok tk,rfl,q⟩
end
def aA (T:String):D->Option D:=fun a=>if isX a=true then none else some (.bool (aB (tyN a) T))
section
variable {X:Cx} {K:PySem.W.Frag} {p:Bool} {ds ds1:List Nat} {d1:Nat} {e:Expr} {f:ME}
def FN {T:Str} {n:String} {px pt pos:Pos} (hK:X.K=K) (hg:Gl X "isinstance") (hm:X.mg "isinstance"=none) (hgT:Gl X T) (hmT:X.mg T=none) (hbT:bootBuiltins T=some (.type n)) (hT:n∈["int", "bool", "str", "list", "tuple", "dict"]) (he:PE X e (tF K p ds ds1 d1 f))
  (hnT:T≠"__name__") (hdT:(T == ("__debug__" : Str))=false)
  (hs1:starEach [e,.Name T pt] X.env=(false,eval e X.env) :: starEach [.Name T pt] X.env) (hs2:starEach [.Name T pt] X.env=(false,eval (.Name T pt) X.env) :: starEach [] X.env) (hpl:(backTo pos (starEach [.Name T pt] X.env)).any (·.1)=false) :
  PE X (.Call (.Name "isinstance" px) [e,.Name T pt] [] pos) (tF K p ds ds1 3 (e1 (aA n) f)):=by
 subst hK;refine (ke tG hg hm boot_isinstance (bM he (bM (lF (v:=.ty n) hgT hmT hbT rfl hnT hdT) pa_nil hs2) hs1) (by decide) (by decide) hs1 hpl).imp fun σ H Q h=>?_;obtain ⟨Ox,en,R,t,en',e,hf,k⟩:=h;unfold e1 at hf;obtain ⟨⟨t1,en1⟩,h1,hf⟩:=zaa.mp hf;obtain ⟨t',h3,hf⟩:=zab.mp hf;cases hf;unfold aA at h3;by_cases hX:isX t1=true
 ·rw [if_pos hX] at h3; cases h3
 rw [if_neg hX] at h3;cases h3;refine ⟨Ox,en,R,t1,en1,e,h1,fun v H' R' F P o=>?_⟩;exact ⟨v,n,Own R' Ox,t1,rfl,Ow.letgo P (fun _ z=>z) o,Bool.eq_false_iff.mpr hX,hT,k _ H' R' NoA (P.less fun _ z=>z.elim) rfl⟩
end
mutual
def peq:D->D->Bool
 | .none,.none=>true
 | .bool a,.bool b=>a == b
 | .bool a,.int b=>(if a then (1:Int) else 0) == b
 | .int a,.bool b=>a == (if b then (1:Int) else 0)
 | .int a,.int b=>a == b
 | .str a,.str b=>a == b
 | .list a,.list b=>dP a b
 | .tuple a,.tuple b=>dP a b
 | _,_=>false
def dP:List D->List D->Bool
 | [],[]=>true
 | a :: r,b :: s=>peq a b && dP r s
 | _,_=>false
end
mutual
def noDict:D->Bool
 | .dict _=>false
 | .list ts=>aG ts
 | .tuple ts=>aG ts
 | _=>true
def aG:List D->Bool
 | []=>true
 | t :: r=>noDict t && aG r
end
mutual
theorem iC:∀ a:D,noDict a=true->peq a a=true
 | .none,_=>rfl
 | .bool b,_=>by cases b <;> rfl
 | .int i,_=>by simp [peq]
 | .str i,_=>by simp [peq]
 | .list ts,h=>by simp only [peq]; exact jh ts (by simpa [noDict] using h)
 | .tuple ts,h=>by simp only [peq]; exact jh ts (by simpa [noDict] using h)
 | .dict _,h=>by simp [noDict] at h
theorem jh:∀ a:List D,aG a=true->dP a a=true
 | [],_=>rfl
 | t :: r,h=>by
  have h':noDict t=true/\aG r=true:=by simpa [aG] using h
  simp only [dP,iC t h'.1,jh r h'.2,Bool.and_self]
end
mutual
def cS:D->Nat
 | .list ts=>bT ts+1
 | .tuple ts=>bT ts+1
 | _=>0
def bT:List D->Nat
 | []=>0
 | t :: r=>max (cS t) (bT r)
end
def jy:∀ {ts:List D} {i:Nat} {t:D},ts[i]?=some t->cS t<=bT ts
 | [],_,_,h=>by simp at h
 | u :: r,i,t,h=>by
  simp only [bT];cases i with
  | zero=>simp at h; subst h; exact Nat.le_max_left _ _
  | succ i=>exact zau (jy (by simpa using h)) (Nat.le_max_right _ _)
def dD:∀ {ts:List D} {i:Nat} {t:D},aG ts=true->ts[i]?=some t->noDict t=true
 | [],_,_,_,h=>by simp at h
 | u :: r,i,t,hn,h=>by
  have h':noDict u=true/\aG r=true:=by simpa [aG] using hn
  cases i with
  | zero=>simp at h; subst h; exact h'.1
  | succ i=>exact dD h'.2 (by simpa using h)
def kc:∀ {a b:List D},a.length≠b.length->dP a b=false
 | [],[],h=>absurd rfl h
 | [],_ :: _,_=>rfl
 | _ :: _,[],_=>rfl
 | a :: r,b :: s,h=>by
  simp only [dP,kc (a:=r) (b:=s) (fun z=>h (by rw [zac,zac,z])),Bool.and_false]
def eAt (a b:List D) (j:Nat):Bool:=match a[j]?,b[j]? with
 | some x,some y=>peq x y
 | _,_=>true
def mh (n:Nat) (f:Nat->Bool):(List.range (n+1)).all f=(f 0 && (List.range n).all fun j=>f (j+1)):=by
 rw [List.range_succ_eq_map,List.all_cons,List.all_map];rfl
def kd:∀ {a b:List D},a.length=b.length->(List.range a.length).all (eAt a b)=dP a b
 | [],[],_=>rfl
 | a :: r,b :: s,h=>by
  rw [zac,mh];have e:(List.range r.length).all (fun j=>eAt (a :: r) (b :: s) (j+1))=(List.range r.length).all (eAt r s):=by
   congr 1
  rw [e,kd (by simpa using h)];rfl
 | [],_ :: _,h=>by simp at h
 | _ :: _,[],h=>by simp at h
section
open PySem.SeqAt
variable {X:Cx} {pins:List (Addr × Obj)} {σ:St} {H:Hp} {s:Shared} {O:AS}
def Ar {p:Addr} {vs ws:List V} (I:Inv X pins σ H s) (h:SqL X.K H p vs) (g:SqT X.K H p ws):False:=by
 obtain ⟨its,_,p1,_⟩:=I.list h;obtain ⟨its2,_,p2,_⟩:=I.tuple g;exact ne_of_list_tuple p1.isList (show s.heap.IsTuple p its2.toArray from p2) rfl
def EM {p:Addr} {vs:List V} {ks:List (List Key × V)} (I:Inv X pins σ H s) (h:SqL X.K H p vs) (g:H p=some (.dT ks)):False:=by
 obtain ⟨its,_,⟨o,n,e1,e2,_⟩,_⟩:=I.list h;obtain ⟨_,_,_,_,o',_,_,g1,g2,_⟩:=qT I.hok g;rw [e1] at g1;cases g1;rw [g2.1] at e2;simp at e2
def GK {p:Addr} {vs:List V} {ks:List (Key × V)} (I:Inv X pins σ H s) (h:SqL X.K H p vs) (g:Rd H p (.dK ks)):False:=by
 obtain ⟨its,_,⟨o,n,e1,e2,_⟩,_⟩:=I.list h;obtain ⟨_,_,_,_,o',_,_,g1,g2,_⟩:=iP I.hok g;rw [e1] at g1;cases g1;rw [g2.1] at e2;simp at e2
mutual
theorem Ow.inj (I:Inv X pins σ H s):∀ (a b:D) {x:V},Ow X.K O H a 0 x NoA->Ow X.K O H b 0 x NoA->noDict a=true->a=b
 | .none,b,_,h,g,_=>by
  cases (show _=_ from h);cases b with
  | none=>rfl
  | list ts=>obtain ⟨_,_,z,_⟩:=g; cases z
  | tuple ts=>obtain ⟨_,_,z,_⟩:=g; cases z
  | dict ts=>obtain ⟨_,_,z,_⟩:=g; cases z
  | bool c=>cases (show V.non=V.bl c from g)
  | int c=>cases (show V.non=V.int c from g)
  | str c=>cases (show V.non=V.str c from g)
 | .bool c,b,_,h,g,_=>by
  cases (show _=_ from h);cases b with
  | none=>cases (show V.bl c=V.non from g)
  | list ts=>obtain ⟨_,_,z,_⟩:=g; cases z
  | tuple ts=>obtain ⟨_,_,z,_⟩:=g; cases z
  | dict ts=>obtain ⟨_,_,z,_⟩:=g; cases z
  | bool c'=>cases (show V.bl c=V.bl c' from g); rfl
  | int c'=>cases (show V.bl c=V.int c' from g)
  | str c'=>cases (show V.bl c=V.str c' from g)
 | .int c,b,_,h,g,_=>by
  cases (show _=_ from h);cases b with
  | none=>cases (show V.int c=V.non from g)
  | list ts=>obtain ⟨_,_,z,_⟩:=g; cases z
  | tuple ts=>obtain ⟨_,_,z,_⟩:=g; cases z
  | dict ts=>obtain ⟨_,_,z,_⟩:=g; cases z
  | bool c'=>cases (show V.int c=V.bl c' from g)
  | int c'=>cases (show V.int c=V.int c' from g); rfl
  | str c'=>cases (show V.int c=V.str c' from g)
 | .str c,b,_,h,g,_=>by
  cases (show _=_ from h);cases b with
  | none=>cases (show V.str c=V.non from g)
  | list ts=>obtain ⟨_,_,z,_⟩:=g; cases z
  | tuple ts=>obtain ⟨_,_,z,_⟩:=g; cases z
  | dict ts=>obtain ⟨_,_,z,_⟩:=g; cases z
  | bool c'=>cases (show V.str c=V.bl c' from g)
  | int c'=>cases (show V.str c=V.int c' from g)
  | str c'=>cases (show V.str c=V.str c' from g); rfl
 | .list ts,b,_,h,g,hn=>by
  obtain ⟨p,vs,rfl,fz,w⟩:=h.lst0;cases b with
  | none=>cases (show V.ref p=V.non from g)
  | bool c'=>cases (show V.ref p=V.bl c' from g)
  | int c'=>cases (show V.ref p=V.int c' from g)
  | str c'=>cases (show V.ref p=V.str c' from g)
  | list us =>
   obtain ⟨p',vs',e,fz',w'⟩:=g.lst0;cases e
   have:=I.list_inj fz.sq fz'.sq;subst this;rw [Ows.inj I ts us w w' (by simpa [noDict] using hn)]
  | tuple us =>
   obtain ⟨p',vs',e,fz',w'⟩:=g.tup0;cases e;exact (Ar I fz.sq fz'.sq).elim
  | dict us =>
   obtain ⟨p',vs',e,⟨_,g1,_⟩ | ⟨z,_⟩ | ⟨_,⟨_,_,_,g1,_⟩ | ⟨_,C,_,_,g1,_⟩⟩⟩:=g
   ·cases e;exact (GK I fz.sq g1).elim
   ·exact absurd rfl z
   ·cases e;exact (EM I fz.sq g1).elim
   ·cases e;obtain ⟨its,rv,⟨o,n,e1,e2,_⟩,_⟩:=I.list fz.sq;obtain ⟨⟨o',x1,x2,_⟩,_⟩:=(show ObjOk X.prog X.w H s.heap p (.ext (F8 p C)) from I.hok p _ g1);rw [e1] at x1;cases x1;rw [e2] at x2;cases x2
 | .tuple ts,b,_,h,g,hn=>by
  obtain ⟨p,vs,rfl,fz,w⟩:=h.tup0;cases b with
  | none=>cases (show V.ref p=V.non from g)
  | bool c'=>cases (show V.ref p=V.bl c' from g)
  | int c'=>cases (show V.ref p=V.int c' from g)
  | str c'=>cases (show V.ref p=V.str c' from g)
  | tuple us =>
   obtain ⟨p',vs',e,fz',w'⟩:=g.tup0;cases e
   have:=fz.1.symm.trans fz'.1;cases this;rw [Ows.inj I ts us w w' (by simpa [noDict] using hn)]
  | list us =>
   obtain ⟨p',vs',e,fz',w'⟩:=g.lst0;cases e;exact (Ar I fz'.sq fz.sq).elim
  | dict us =>
   obtain ⟨p',vs',e,⟨_,g1,_⟩ | ⟨z,_⟩ | ⟨_,⟨_,_,_,g1,_⟩ | ⟨_,C,_,_,g1,_⟩⟩⟩:=g
   ·cases e;rcases g1 with g1 | ⟨_,g1⟩ <;> rw [fz.1] at g1 <;> cases g1
   ·exact absurd rfl z
   ·cases e;rw [fz.1] at g1;cases g1
   ·cases e;rw [fz.1] at g1;cases g1
 | .dict _,_,_,_,_,hn=>by simp [noDict] at hn
theorem Ows.inj (I:Inv X pins σ H s):∀ (a b:List D) {x:List V},Ows X.K O H a 0 x NoA->Ows X.K O H b 0 x NoA->aG a=true->a=b
 | [],b,_,h,g,_=>by
  cases (show _=_ from h);cases b with
  | nil=>rfl
  | cons u us=>obtain ⟨_,_,_,_,e,_⟩:=g; cases e
 | t :: ts,b,_,h,g,hn=>by
  obtain ⟨v,r,F1,F2,e,_,_,_,h4,h5⟩:=h;subst e;have hn':noDict t=true/\aG ts=true:=by simpa [aG] using hn
  cases b with
  | nil=>cases (show v :: r=[] from g)
  | cons u us =>
   obtain ⟨v',r',G1,G2,e,_,_,_,g4,g5⟩:=g;cases e;rw [Ow.inj I t u (Ow.any0 t h4) (Ow.any0 u g4) hn'.1,Ows.inj I ts us (Ows.any0 ts h5) (Ows.any0 us g5) hn'.2]
end
def nQ {A:Around} {ts us:List D} {vs ws:List V} {its its2:List Value} (w:Ows X.K O H ts 0 vs NoA) (w2:Ows X.K O H us 0 ws NoA) (rv:Vals vs its) (rv2:Vals ws its2)
  (ih:∀ (j:Nat) a b x y v u,ts[j]?=some a->us[j]?=some b->Ow X.K O H a 0 x NoA->Ow X.K O H b 0 y NoA->RelV x v->RelV y u->EqAt A s v u (peq a b)) :
  ∀ j (h1:j < its.toArray.size) (h2:j < its2.toArray.size),EqAt A s its.toArray[j] its2.toArray[j] (eAt ts us j):=fun j h1 h2=>by
 have h1':j < its.length:=by simpa using h1
 have h2':j < its2.length:=by simpa using h2
 have l1:=rv.length;have l2:=rv2.length;have m1:=w.len;have m2:=w2.len;have e1:ts[j]?=some ts[j]:=zak (by omega);have e2:us[j]?=some us[j]:=zak (by omega);obtain ⟨x,g1,o1⟩:=w.get e1;obtain ⟨y,g2,o2⟩:=w2.get e2;obtain ⟨u1,f1,q1⟩:=rv.get g1;obtain ⟨u2,f2,q2⟩:=rv2.get g2;have z:=ih j _ _ x y u1 u2 e1 e2 o1 o2 q1 q2;rw [zak h1'] at f1;rw [zak h2'] at f2;have i1:its.toArray[j]=u1:=by simpa using zat f1
 have i2:its2.toArray[j]=u2:=by simpa using zat f2
 rw [i1,i2];unfold eAt;rw [e1,e2];exact z
def AG (I:Inv X pins σ H s):∀ (n:Nat) (a b:D) (A:Around) (x y:V) (v u:Value),cS a<=n->noDict a=true->noDict b=true->Ow X.K O H a 0 x NoA->Ow X.K O H b 0 y NoA->RelV x v->RelV y u->A.units+n+1 < cLine ->
  EqAt A s v u (peq a b)/\RcAt A s v u (peq a b)/\RcNeAt A s v u (!peq a b):=by
 intro n
 induction n with
 | zero =>
  intro a b A x y v u hdp hna hnb o1 o2 r1 r2 hun;have hu:A.units < cLine:=by omega
  cases a with
  | none =>
   cases b with
   | none =>
    cases (show x=V.non from o1);cases r1;cases (show y=V.non from o2);cases r2;exact ⟨EqAt.same _,RcAt.none_none,RcNeAt.none_none⟩
   | bool c2 =>
    cases (show x=V.non from o1);cases r1;cases (show y=V.bl c2 from o2);cases r2;exact ⟨EqAt.none_bool _,RcAt.none_bool _,RcNeAt.none_bool _⟩
   | int c2 =>
    cases (show x=V.non from o1);cases r1;cases (show y=V.int c2 from o2);obtain ⟨tk2,rfl⟩:=r2;exact ⟨EqAt.none_int _ _,RcAt.none_int _ _,RcNeAt.none_int _ _⟩
   | str c2 =>
    cases (show x=V.non from o1);cases r1;cases (show y=V.str c2 from o2);obtain ⟨tk2,rfl⟩:=r2;exact ⟨EqAt.none_str _ _,RcAt.none_str _ _,RcNeAt.none_str _ _⟩
   | list c2 =>
    cases (show x=V.non from o1);cases r1;obtain ⟨p2,vs2,rfl,fz2,w2⟩:=o2.lst0;cases r2;obtain ⟨its2,rv2,pl2,_⟩:=I.list fz2.sq;have hl2:=pl2.isList;exact ⟨EqAt.none_list  hl2 hu,RcAt.none_list  hl2 hu,RcNeAt.none_list  hl2 hu⟩
   | tuple c2 =>
    cases (show x=V.non from o1);cases r1;obtain ⟨p2,vs2,rfl,fz2,w2⟩:=o2.tup0;cases r2;obtain ⟨its2,rv2,pl2,_⟩:=I.tuple fz2.sq;have hl2:s.heap.IsTuple p2 its2.toArray:=pl2;exact ⟨EqAt.none_tuple  hl2 hu,RcAt.none_tuple  hl2 hu,RcNeAt.none_tuple  hl2 hu⟩
   | dict c2=>simp [noDict] at hnb
  | bool c1 =>
   cases b with
   | none =>
    cases (show x=V.bl c1 from o1);cases r1;cases (show y=V.non from o2);cases r2;exact ⟨EqAt.bool_none _,RcAt.bool_none _,RcNeAt.bool_none _⟩
   | bool c2 =>
    cases (show x=V.bl c1 from o1);cases r1;cases (show y=V.bl c2 from o2);cases r2;exact ⟨EqAt.bool_bool _ _,RcAt.bool_bool _ _,RcNeAt.bool_bool _ _⟩
   | int c2 =>
    cases (show x=V.bl c1 from o1);cases r1;cases (show y=V.int c2 from o2);obtain ⟨tk2,rfl⟩:=r2;exact ⟨EqAt.bool_int _ _ _,RcAt.bool_int _ _ _,RcNeAt.bool_int _ _ _⟩
   | str c2 =>
    cases (show x=V.bl c1 from o1);cases r1;cases (show y=V.str c2 from o2);obtain ⟨tk2,rfl⟩:=r2;exact ⟨EqAt.bool_str _ _ _,RcAt.bool_str _ _ _,RcNeAt.bool_str _ _ _⟩
   | list c2 =>
    cases (show x=V.bl c1 from o1);cases r1;obtain ⟨p2,vs2,rfl,fz2,w2⟩:=o2.lst0;cases r2;obtain ⟨its2,rv2,pl2,_⟩:=I.list fz2.sq;have hl2:=pl2.isList;exact ⟨EqAt.bool_list _ hl2 hu,RcAt.bool_list _ hl2 hu,RcNeAt.bool_list _ hl2 hu⟩
   | tuple c2 =>
    cases (show x=V.bl c1 from o1);cases r1;obtain ⟨p2,vs2,rfl,fz2,w2⟩:=o2.tup0;cases r2;obtain ⟨its2,rv2,pl2,_⟩:=I.tuple fz2.sq;have hl2:s.heap.IsTuple p2 its2.toArray:=pl2;exact ⟨EqAt.bool_tuple _ hl2 hu,RcAt.bool_tuple _ hl2 hu,RcNeAt.bool_tuple _ hl2 hu⟩
   | dict c2=>simp [noDict] at hnb
  | int c1 =>
   cases b with
   | none =>
    cases (show x=V.int c1 from o1);obtain ⟨tk1,rfl⟩:=r1;cases (show y=V.non from o2);cases r2;exact ⟨EqAt.int_none _ _,RcAt.int_none _ _,RcNeAt.int_none _ _⟩
   | bool c2 =>
    cases (show x=V.int c1 from o1);obtain ⟨tk1,rfl⟩:=r1;cases (show y=V.bl c2 from o2);cases r2;exact ⟨EqAt.int_bool _ _ _,RcAt.int_bool _ _ _,RcNeAt.int_bool _ _ _⟩
   | int c2 =>
    cases (show x=V.int c1 from o1);obtain ⟨tk1,rfl⟩:=r1;cases (show y=V.int c2 from o2);obtain ⟨tk2,rfl⟩:=r2;exact ⟨EqAt.int_int _ _ _ _,RcAt.int_int _ _ _ _,RcNeAt.int_int _ _ _ _⟩
   | str c2 =>
    cases (show x=V.int c1 from o1);obtain ⟨tk1,rfl⟩:=r1;cases (show y=V.str c2 from o2);obtain ⟨tk2,rfl⟩:=r2;exact ⟨EqAt.int_str _ _ _ _,RcAt.int_str _ _ _ _,RcNeAt.int_str _ _ _ _⟩
   | list c2 =>
    cases (show x=V.int c1 from o1);obtain ⟨tk1,rfl⟩:=r1;obtain ⟨p2,vs2,rfl,fz2,w2⟩:=o2.lst0;cases r2;obtain ⟨its2,rv2,pl2,_⟩:=I.list fz2.sq;have hl2:=pl2.isList;exact ⟨EqAt.int_list _ _ hl2 hu,RcAt.int_list _ _ hl2 hu,RcNeAt.int_list _ _ hl2 hu⟩
   | tuple c2 =>
    cases (show x=V.int c1 from o1);obtain ⟨tk1,rfl⟩:=r1;obtain ⟨p2,vs2,rfl,fz2,w2⟩:=o2.tup0;cases r2;obtain ⟨its2,rv2,pl2,_⟩:=I.tuple fz2.sq;have hl2:s.heap.IsTuple p2 its2.toArray:=pl2;exact ⟨EqAt.int_tuple _ _ hl2 hu,RcAt.int_tuple _ _ hl2 hu,RcNeAt.int_tuple _ _ hl2 hu⟩
   | dict c2=>simp [noDict] at hnb
  | str c1 =>
   cases b with
   | none =>
    cases (show x=V.str c1 from o1);obtain ⟨tk1,rfl⟩:=r1;cases (show y=V.non from o2);cases r2;exact ⟨EqAt.str_none _ _,RcAt.str_none _ _,RcNeAt.str_none _ _⟩
   | bool c2 =>
    cases (show x=V.str c1 from o1);obtain ⟨tk1,rfl⟩:=r1;cases (show y=V.bl c2 from o2);cases r2;exact ⟨EqAt.str_bool _ _ _,RcAt.str_bool _ _ _,RcNeAt.str_bool _ _ _⟩
   | int c2 =>
    cases (show x=V.str c1 from o1);obtain ⟨tk1,rfl⟩:=r1;cases (show y=V.int c2 from o2);obtain ⟨tk2,rfl⟩:=r2;exact ⟨EqAt.str_int _ _ _ _,RcAt.str_int _ _ _ _,RcNeAt.str_int _ _ _ _⟩
   | str c2 =>
    cases (show x=V.str c1 from o1);obtain ⟨tk1,rfl⟩:=r1;cases (show y=V.str c2 from o2);obtain ⟨tk2,rfl⟩:=r2;exact ⟨EqAt.str_str _ _ _ _,RcAt.str_str _ _ _ _,RcNeAt.str_str _ _ _ _⟩
   | list c2 =>
    cases (show x=V.str c1 from o1);obtain ⟨tk1,rfl⟩:=r1;obtain ⟨p2,vs2,rfl,fz2,w2⟩:=o2.lst0;cases r2;obtain ⟨its2,rv2,pl2,_⟩:=I.list fz2.sq;have hl2:=pl2.isList;exact ⟨EqAt.str_list _ _ hl2 hu,RcAt.str_list _ _ hl2 hu,RcNeAt.str_list _ _ hl2 hu⟩
   | tuple c2 =>
    cases (show x=V.str c1 from o1);obtain ⟨tk1,rfl⟩:=r1;obtain ⟨p2,vs2,rfl,fz2,w2⟩:=o2.tup0;cases r2;obtain ⟨its2,rv2,pl2,_⟩:=I.tuple fz2.sq;have hl2:s.heap.IsTuple p2 its2.toArray:=pl2;exact ⟨EqAt.str_tuple _ _ hl2 hu,RcAt.str_tuple _ _ hl2 hu,RcNeAt.str_tuple _ _ hl2 hu⟩
   | dict c2=>simp [noDict] at hnb
  | list c1 =>
   simp only [cS] at hdp;omega
  | tuple c1 =>
   simp only [cS] at hdp;omega
  | dict c1=>simp [noDict] at hna
 | succ n ih =>
  intro a b A x y v u hdp hna hnb o1 o2 r1 r2 hun;have hu:A.units < cLine:=by omega
  have hu1:A.in1.units+n+1 < cLine:=by
   show A.units+1+n+1 < cLine;omega
  cases a with
  | none =>
   cases b with
   | none =>
    cases (show x=V.non from o1);cases r1;cases (show y=V.non from o2);cases r2;exact ⟨EqAt.same _,RcAt.none_none,RcNeAt.none_none⟩
   | bool c2 =>
    cases (show x=V.non from o1);cases r1;cases (show y=V.bl c2 from o2);cases r2;exact ⟨EqAt.none_bool _,RcAt.none_bool _,RcNeAt.none_bool _⟩
   | int c2 =>
    cases (show x=V.non from o1);cases r1;cases (show y=V.int c2 from o2);obtain ⟨tk2,rfl⟩:=r2;exact ⟨EqAt.none_int _ _,RcAt.none_int _ _,RcNeAt.none_int _ _⟩
   | str c2 =>
    cases (show x=V.non from o1);cases r1;cases (show y=V.str c2 from o2);obtain ⟨tk2,rfl⟩:=r2;exact ⟨EqAt.none_str _ _,RcAt.none_str _ _,RcNeAt.none_str _ _⟩
   | list c2 =>
    cases (show x=V.non from o1);cases r1;obtain ⟨p2,vs2,rfl,fz2,w2⟩:=o2.lst0;cases r2;obtain ⟨its2,rv2,pl2,_⟩:=I.list fz2.sq;have hl2:=pl2.isList;exact ⟨EqAt.none_list  hl2 hu,RcAt.none_list  hl2 hu,RcNeAt.none_list  hl2 hu⟩
   | tuple c2 =>
    cases (show x=V.non from o1);cases r1;obtain ⟨p2,vs2,rfl,fz2,w2⟩:=o2.tup0;cases r2;obtain ⟨its2,rv2,pl2,_⟩:=I.tuple fz2.sq;have hl2:s.heap.IsTuple p2 its2.toArray:=pl2;exact ⟨EqAt.none_tuple  hl2 hu,RcAt.none_tuple  hl2 hu,RcNeAt.none_tuple  hl2 hu⟩
   | dict c2=>simp [noDict] at hnb
  | bool c1 =>
   cases b with
   | none =>
    cases (show x=V.bl c1 from o1);cases r1;cases (show y=V.non from o2);cases r2;exact ⟨EqAt.bool_none _,RcAt.bool_none _,RcNeAt.bool_none _⟩
   | bool c2 =>
    cases (show x=V.bl c1 from o1);cases r1;cases (show y=V.bl c2 from o2);cases r2;exact ⟨EqAt.bool_bool _ _,RcAt.bool_bool _ _,RcNeAt.bool_bool _ _⟩
   | int c2 =>
    cases (show x=V.bl c1 from o1);cases r1;cases (show y=V.int c2 from o2);obtain ⟨tk2,rfl⟩:=r2;exact ⟨EqAt.bool_int _ _ _,RcAt.bool_int _ _ _,RcNeAt.bool_int _ _ _⟩
   | str c2 =>
    cases (show x=V.bl c1 from o1);cases r1;cases (show y=V.str c2 from o2);obtain ⟨tk2,rfl⟩:=r2;exact ⟨EqAt.bool_str _ _ _,RcAt.bool_str _ _ _,RcNeAt.bool_str _ _ _⟩
   | list c2 =>
    cases (show x=V.bl c1 from o1);cases r1;obtain ⟨p2,vs2,rfl,fz2,w2⟩:=o2.lst0;cases r2;obtain ⟨its2,rv2,pl2,_⟩:=I.list fz2.sq;have hl2:=pl2.isList;exact ⟨EqAt.bool_list _ hl2 hu,RcAt.bool_list _ hl2 hu,RcNeAt.bool_list _ hl2 hu⟩
   | tuple c2 =>
    cases (show x=V.bl c1 from o1);cases r1;obtain ⟨p2,vs2,rfl,fz2,w2⟩:=o2.tup0;cases r2;obtain ⟨its2,rv2,pl2,_⟩:=I.tuple fz2.sq;have hl2:s.heap.IsTuple p2 its2.toArray:=pl2;exact ⟨EqAt.bool_tuple _ hl2 hu,RcAt.bool_tuple _ hl2 hu,RcNeAt.bool_tuple _ hl2 hu⟩
   | dict c2=>simp [noDict] at hnb
  | int c1 =>
   cases b with
   | none =>
    cases (show x=V.int c1 from o1);obtain ⟨tk1,rfl⟩:=r1;cases (show y=V.non from o2);cases r2;exact ⟨EqAt.int_none _ _,RcAt.int_none _ _,RcNeAt.int_none _ _⟩
   | bool c2 =>
    cases (show x=V.int c1 from o1);obtain ⟨tk1,rfl⟩:=r1;cases (show y=V.bl c2 from o2);cases r2;exact ⟨EqAt.int_bool _ _ _,RcAt.int_bool _ _ _,RcNeAt.int_bool _ _ _⟩
   | int c2 =>
    cases (show x=V.int c1 from o1);obtain ⟨tk1,rfl⟩:=r1;cases (show y=V.int c2 from o2);obtain ⟨tk2,rfl⟩:=r2;exact ⟨EqAt.int_int _ _ _ _,RcAt.int_int _ _ _ _,RcNeAt.int_int _ _ _ _⟩
   | str c2 =>
    cases (show x=V.int c1 from o1);obtain ⟨tk1,rfl⟩:=r1;cases (show y=V.str c2 from o2);obtain ⟨tk2,rfl⟩:=r2;exact ⟨EqAt.int_str _ _ _ _,RcAt.int_str _ _ _ _,RcNeAt.int_str _ _ _ _⟩
   | list c2 =>
    cases (show x=V.int c1 from o1);obtain ⟨tk1,rfl⟩:=r1;obtain ⟨p2,vs2,rfl,fz2,w2⟩:=o2.lst0;cases r2;obtain ⟨its2,rv2,pl2,_⟩:=I.list fz2.sq;have hl2:=pl2.isList;exact ⟨EqAt.int_list _ _ hl2 hu,RcAt.int_list _ _ hl2 hu,RcNeAt.int_list _ _ hl2 hu⟩
   | tuple c2 =>
    cases (show x=V.int c1 from o1);obtain ⟨tk1,rfl⟩:=r1;obtain ⟨p2,vs2,rfl,fz2,w2⟩:=o2.tup0;cases r2;obtain ⟨its2,rv2,pl2,_⟩:=I.tuple fz2.sq;have hl2:s.heap.IsTuple p2 its2.toArray:=pl2;exact ⟨EqAt.int_tuple _ _ hl2 hu,RcAt.int_tuple _ _ hl2 hu,RcNeAt.int_tuple _ _ hl2 hu⟩
   | dict c2=>simp [noDict] at hnb
  | str c1 =>
   cases b with
   | none =>
    cases (show x=V.str c1 from o1);obtain ⟨tk1,rfl⟩:=r1;cases (show y=V.non from o2);cases r2;exact ⟨EqAt.str_none _ _,RcAt.str_none _ _,RcNeAt.str_none _ _⟩
   | bool c2 =>
    cases (show x=V.str c1 from o1);obtain ⟨tk1,rfl⟩:=r1;cases (show y=V.bl c2 from o2);cases r2;exact ⟨EqAt.str_bool _ _ _,RcAt.str_bool _ _ _,RcNeAt.str_bool _ _ _⟩
   | int c2 =>
    cases (show x=V.str c1 from o1);obtain ⟨tk1,rfl⟩:=r1;cases (show y=V.int c2 from o2);obtain ⟨tk2,rfl⟩:=r2;exact ⟨EqAt.str_int _ _ _ _,RcAt.str_int _ _ _ _,RcNeAt.str_int _ _ _ _⟩
   | str c2 =>
    cases (show x=V.str c1 from o1);obtain ⟨tk1,rfl⟩:=r1;cases (show y=V.str c2 from o2);obtain ⟨tk2,rfl⟩:=r2;exact ⟨EqAt.str_str _ _ _ _,RcAt.str_str _ _ _ _,RcNeAt.str_str _ _ _ _⟩
   | list c2 =>
    cases (show x=V.str c1 from o1);obtain ⟨tk1,rfl⟩:=r1;obtain ⟨p2,vs2,rfl,fz2,w2⟩:=o2.lst0;cases r2;obtain ⟨its2,rv2,pl2,_⟩:=I.list fz2.sq;have hl2:=pl2.isList;exact ⟨EqAt.str_list _ _ hl2 hu,RcAt.str_list _ _ hl2 hu,RcNeAt.str_list _ _ hl2 hu⟩
   | tuple c2 =>
    cases (show x=V.str c1 from o1);obtain ⟨tk1,rfl⟩:=r1;obtain ⟨p2,vs2,rfl,fz2,w2⟩:=o2.tup0;cases r2;obtain ⟨its2,rv2,pl2,_⟩:=I.tuple fz2.sq;have hl2:s.heap.IsTuple p2 its2.toArray:=pl2;exact ⟨EqAt.str_tuple _ _ hl2 hu,RcAt.str_tuple _ _ hl2 hu,RcNeAt.str_tuple _ _ hl2 hu⟩
   | dict c2=>simp [noDict] at hnb
  | list c1 =>
   cases b with
   | none =>
    obtain ⟨p1,vs1,rfl,fz1,w1⟩:=o1.lst0;cases r1;obtain ⟨its1,rv1,pl1,_⟩:=I.list fz1.sq;have hl1:=pl1.isList;cases (show y=V.non from o2);cases r2;exact ⟨EqAt.list_none  hl1 hu,RcAt.list_none  hl1 hu,RcNeAt.list_none  hl1 hu⟩
   | bool c2 =>
    obtain ⟨p1,vs1,rfl,fz1,w1⟩:=o1.lst0;cases r1;obtain ⟨its1,rv1,pl1,_⟩:=I.list fz1.sq;have hl1:=pl1.isList;cases (show y=V.bl c2 from o2);cases r2;exact ⟨EqAt.list_bool _ hl1 hu,RcAt.list_bool _ hl1 hu,RcNeAt.list_bool _ hl1 hu⟩
   | int c2 =>
    obtain ⟨p1,vs1,rfl,fz1,w1⟩:=o1.lst0;cases r1;obtain ⟨its1,rv1,pl1,_⟩:=I.list fz1.sq;have hl1:=pl1.isList;cases (show y=V.int c2 from o2);obtain ⟨tk2,rfl⟩:=r2;exact ⟨EqAt.list_int _ _ hl1 hu,RcAt.list_int _ _ hl1 hu,RcNeAt.list_int _ _ hl1 hu⟩
   | str c2 =>
    obtain ⟨p1,vs1,rfl,fz1,w1⟩:=o1.lst0;cases r1;obtain ⟨its1,rv1,pl1,_⟩:=I.list fz1.sq;have hl1:=pl1.isList;cases (show y=V.str c2 from o2);obtain ⟨tk2,rfl⟩:=r2;exact ⟨EqAt.list_str _ _ hl1 hu,RcAt.list_str _ _ hl1 hu,RcNeAt.list_str _ _ hl1 hu⟩
   | list c2 =>
    obtain ⟨p1,vs1,rfl,fz1,w1⟩:=o1.lst0;cases r1;obtain ⟨its1,rv1,pl1,_⟩:=I.list fz1.sq;have hl1:=pl1.isList;obtain ⟨p2,vs2,rfl,fz2,w2⟩:=o2.lst0;cases r2;obtain ⟨its2,rv2,pl2,_⟩:=I.list fz2.sq;have hl2:=pl2.isList;have dl:bT c1<=n:=by simp only [cS] at hdp; omega
    have nd1:aG c1=true:=by simpa [noDict] using hna
    have nd2:aG c2=true:=by simpa [noDict] using hnb
    have el:=nQ (A:=A.in1) w1 w2 rv1 rv2 fun j a b x y v u e1 e2 q1 q2 q3 q4=>(ih a b A.in1 x y v u (zau (jy e1) dl) (dD nd1 e1) (dD nd2 e2) q1 q2 q3 q4 hu1).1;have l1:=rv1.length;have l2:=rv2.length;have m1:=w1.len;have m2:=w2.len;have rc:RcAt A s (.ref p1) (.ref p2) (dP c1 c2)/\RcNeAt A s (.ref p1) (.ref p2) (!dP c1 c2):=by
     by_cases hz:c1.length=c2.length
     ·have hs1:its1.toArray.size=its2.toArray.size:=by rw [zai,zai]; omega
      have hs2:its1.toArray.size=c1.length:=by rw [zai]; omega
      have z1:=RcAt.lists hl1 hl2 hs1 hu el;have z2:=RcNeAt.lists hl1 hl2 hs1 hu el;rw [hs2,kd hz] at z1 z2;exact ⟨z1,z2⟩
     ·have hs1:(its1.toArray.size != its2.toArray.size)=true:=by rw [zai,zai,bne_iff_ne]; omega
      rw [kc hz];exact ⟨RcAt.lists_lengths hl1 hl2 hs1 hu,RcNeAt.lists_lengths hl1 hl2 hs1 hu⟩
    have pe:peq (.list c1) (.list c2)=dP c1 c2:=by simp only [peq]
    refine ⟨?_,by rw [pe]; exact rc.1,by rw [pe]; exact rc.2⟩;by_cases hp:p1=p2
    ·subst hp
     have:=Ow.inj I _ _ o1 o2 hna;cases this;rw [iC _ hna];exact EqAt.same _
    ·rw [pe];exact EqAt.of_refs hp rc.1
   | tuple c2 =>
    obtain ⟨p1,vs1,rfl,fz1,w1⟩:=o1.lst0;cases r1;obtain ⟨its1,rv1,pl1,_⟩:=I.list fz1.sq;have hl1:=pl1.isList;obtain ⟨p2,vs2,rfl,fz2,w2⟩:=o2.tup0;cases r2;obtain ⟨its2,rv2,pl2,_⟩:=I.tuple fz2.sq;have hl2:s.heap.IsTuple p2 its2.toArray:=pl2;exact ⟨EqAt.list_tuple hl1 hl2 hu,RcAt.list_tuple hl1 hl2 hu,RcNeAt.list_tuple hl1 hl2 hu⟩
   | dict c2=>simp [noDict] at hnb
  | tuple c1 =>
   cases b with
   | none =>
    obtain ⟨p1,vs1,rfl,fz1,w1⟩:=o1.tup0;cases r1;obtain ⟨its1,rv1,pl1,_⟩:=I.tuple fz1.sq;have hl1:s.heap.IsTuple p1 its1.toArray:=pl1;cases (show y=V.non from o2);cases r2;exact ⟨EqAt.tuple_none  hl1 hu,RcAt.tuple_none  hl1 hu,RcNeAt.tuple_none  hl1 hu⟩
   | bool c2 =>
    obtain ⟨p1,vs1,rfl,fz1,w1⟩:=o1.tup0;cases r1;obtain ⟨its1,rv1,pl1,_⟩:=I.tuple fz1.sq;have hl1:s.heap.IsTuple p1 its1.toArray:=pl1;cases (show y=V.bl c2 from o2);cases r2;exact ⟨EqAt.tuple_bool _ hl1 hu,RcAt.tuple_bool _ hl1 hu,RcNeAt.tuple_bool _ hl1 hu⟩
   | int c2 =>
    obtain ⟨p1,vs1,rfl,fz1,w1⟩:=o1.tup0;cases r1;obtain ⟨its1,rv1,pl1,_⟩:=I.tuple fz1.sq;have hl1:s.heap.IsTuple p1 its1.toArray:=pl1;cases (show y=V.int c2 from o2);obtain ⟨tk2,rfl⟩:=r2;exact ⟨EqAt.tuple_int _ _ hl1 hu,RcAt.tuple_int _ _ hl1 hu,RcNeAt.tuple_int _ _ hl1 hu⟩
   | str c2 =>
    obtain ⟨p1,vs1,rfl,fz1,w1⟩:=o1.tup0;cases r1;obtain ⟨its1,rv1,pl1,_⟩:=I.tuple fz1.sq;have hl1:s.heap.IsTuple p1 its1.toArray:=pl1;cases (show y=V.str c2 from o2);obtain ⟨tk2,rfl⟩:=r2;exact ⟨EqAt.tuple_str _ _ hl1 hu,RcAt.tuple_str _ _ hl1 hu,RcNeAt.tuple_str _ _ hl1 hu⟩
   | list c2 =>
    obtain ⟨p1,vs1,rfl,fz1,w1⟩:=o1.tup0;cases r1;obtain ⟨its1,rv1,pl1,_⟩:=I.tuple fz1.sq;have hl1:s.heap.IsTuple p1 its1.toArray:=pl1;obtain ⟨p2,vs2,rfl,fz2,w2⟩:=o2.lst0;cases r2;obtain ⟨its2,rv2,pl2,_⟩:=I.list fz2.sq;have hl2:=pl2.isList;exact ⟨EqAt.tuple_list hl1 hl2 hu,RcAt.tuple_list hl1 hl2 hu,RcNeAt.tuple_list hl1 hl2 hu⟩
   | tuple c2 =>
    obtain ⟨p1,vs1,rfl,fz1,w1⟩:=o1.tup0;cases r1;obtain ⟨its1,rv1,pl1,_⟩:=I.tuple fz1.sq;have hl1:s.heap.IsTuple p1 its1.toArray:=pl1;obtain ⟨p2,vs2,rfl,fz2,w2⟩:=o2.tup0;cases r2;obtain ⟨its2,rv2,pl2,_⟩:=I.tuple fz2.sq;have hl2:s.heap.IsTuple p2 its2.toArray:=pl2;have dl:bT c1<=n:=by simp only [cS] at hdp; omega
    have nd1:aG c1=true:=by simpa [noDict] using hna
    have nd2:aG c2=true:=by simpa [noDict] using hnb
    have el:=nQ (A:=A.in1) w1 w2 rv1 rv2 fun j a b x y v u e1 e2 q1 q2 q3 q4=>(ih a b A.in1 x y v u (zau (jy e1) dl) (dD nd1 e1) (dD nd2 e2) q1 q2 q3 q4 hu1).1;have l1:=rv1.length;have l2:=rv2.length;have m1:=w1.len;have m2:=w2.len;have rc:RcAt A s (.ref p1) (.ref p2) (dP c1 c2)/\RcNeAt A s (.ref p1) (.ref p2) (!dP c1 c2):=by
     have z1:=RcAt.tuples hl1 hl2 hu el;have z2:=RcNeAt.tuples hl1 hl2 hu el;have ez:((List.range (min its1.toArray.size its2.toArray.size)).all (eAt c1 c2) && its1.toArray.size == its2.toArray.size)=dP c1 c2:=by
      rw [zai,zai];by_cases hz:c1.length=c2.length
      ·have h3:its1.length=its2.length:=by omega
       have h4:min its1.length its2.length=c1.length:=by omega
       rw [h4,kd hz,h3,beq_self_eq_true,Bool.and_true]
      ·have h3:(its1.length == its2.length)=false:=by rw [beq_eq_false_iff_ne]; omega
       rw [h3,Bool.and_false,kc hz]
     rw [ez] at z1 z2;exact ⟨z1,z2⟩
    have pe:peq (.tuple c1) (.tuple c2)=dP c1 c2:=by simp only [peq]
    refine ⟨?_,by rw [pe]; exact rc.1,by rw [pe]; exact rc.2⟩;by_cases hp:p1=p2
    ·subst hp
     have:=Ow.inj I _ _ o1 o2 hna;cases this;rw [iC _ hna];exact EqAt.same _
    ·rw [pe];exact EqAt.of_refs hp rc.1
   | dict c2=>simp [noDict] at hnb
  | dict c1=>simp [noDict] at hna
end
def eqD (a b:D):Option D:=grd (noDict a=true/\noDict b=true/\cS a<=60) (.bool (peq a b))
def neD (a b:D):Option D:=grd (noDict a=true/\noDict b=true/\cS a<=60) (.bool (!peq a b))
section
variable {X:Cx} {K:PySem.W.Frag}
def gL (hK:X.K=K) (hu:X.A.units+64 < cLine):OpR X (compareOp .Eq) (rF2 K eqD 3):=by
 subst hK;intro pins s σ H x y v u Q I rx ry ⟨O,a,b,t,oa,ob,hd,hg,k⟩;obtain ⟨⟨c1,c2,c3⟩,rfl⟩:=cj hg;exact (AG I 60 a b X.A x y v u c3 c1 c2 oa ob rx ry (by omega)).2.1 X.prog X.w _ _ ⟨.bl _,H,I,rfl,k _ H NoA .refl rfl⟩
def GR (hK:X.K=K) (hu:X.A.units+64 < cLine):OpR X (compareOp .NotEq) (rF2 K neD 3):=by
 subst hK;intro pins s σ H x y v u Q I rx ry ⟨O,a,b,t,oa,ob,hd,hg,k⟩;obtain ⟨⟨c1,c2,c3⟩,rfl⟩:=cj hg;exact (AG I 60 a b X.A x y v u c3 c1 c2 oa ob rx ry (by omega)).2.2 X.prog X.w _ _ ⟨.bl _,H,I,rfl,k _ H NoA .refl rfl⟩
end
def AL {K:PySem.W.Frag} {dps:List Nat} {dr n:Nat} {F:List D->Option (D × En)} {vs:List V} {H:Hp} {Q:VK} {E:XK} (hn:dps.length=n) (h:spF K dps dr F vs H Q E):vs.length=n:=by
 obtain ⟨Ox,ts,R,r,outs,e,_⟩:=h
 have:=e.l2;rw [zad] at this;omega
section
variable {X:Cx} {K:PySem.W.Frag} {p:Bool} {J:Jd} {ds ds0 ds1 ds2 ds3 ds':List Nat} {d d' d1 d2 d3:Nat} {a b c e:Expr} {st:Stmt} {f f1 f2 f3:ME} {m:MS} {pos p2:Pos}
def BF (h:PS X st (tFS K J ds ds2 m)) (hd:leD ds1 ds2=true):PS X st (tFS K J ds ds1 m):=h.imp fun _ _ _=>sG hd
def Ib (g g':D->D->Option D) (f1 f2 f3:ME):ME:=fun en=>(f1 en).bind fun r=>(f2 r.2).bind fun q=>(g r.1 q.1).bind fun t=>match t with
 | .bool true=>(f3 q.2).bind fun z=>(g' q.1 z.1).map fun t=>(t,z.2)
 | .bool false=>some (.bool false,q.2)
 | _=>none
abbrev MO:=En->Option (Option Int × En)
def Ik:MO:=fun en=>some (none,en)
def Ij (f:ME):MO:=fun en=>(f en).bind fun r=>match r.1 with
 | .int i=>some (some i,r.2)
 | _=>none
def eSl (g:D->Option Int->Option Int->Option D) (f:ME) (lo hi:MO):ME:=fun en=>(f en).bind fun r=>(lo r.2).bind fun l=>(hi l.2).bind fun h=>(g r.1 l.1 h.1).map fun t=>(t,h.2)
variable {lo hi:MO}
def fP {α:Type} (xs:List α) (lo hi:Option Int):List α:=(xs.drop (HT.sIx xs.length 0 lo)).take (HT.sIx xs.length xs.length hi - HT.sIx xs.length 0 lo)
def Iu:D->Option Int->Option Int->Option D
 | .list ts,lo,hi=>some (.list (fP ts lo hi))
 | _,_,_=>none
def IF:D->Option Int->Option Int->Option D
 | .str z,lo,hi=>grd (z.length<=sizeLine) (.str ⟨(HI z.cps.toList lo hi).toArray⟩)
 | _,_,_=>none
end
def kEq:D->D->Bool
 | .int a,.int b=>a == b
 | .str a,.str b=>a == b
 | _,_=>false
def kK (a b:Key):kEq (kD a) (kD b)=decide (a=b):=by
 cases a with
 | inl i=>cases b with
  | inl j=>rw [sr]; rfl
  | inr j=>rw [sn]; rfl
 | inr i=>cases b with
  | inl j=>rw [sj]; rfl
  | inr j =>
   rw [sg];show (i == j)=_;by_cases h:i=j
   ·subst h; simp
   ·rw [zaA h,beq_eq_false_iff_ne]; exact h
def kOf:D->Option Key
 | .int i=>some (.inl i)
 | .str x=>some (.inr x)
 | _=>none
def gm {a:D} {q:Key} (h:kOf a=some q):a=kD q:=by
 cases a <;> cases h <;> rfl
def ig {K:PySem.W.Frag} {O:AS} {H:Hp} {a:D} {q:Key} {d:Nat} {v:V} {F:AS} (h:kOf a=some q) (o:Ow K O H a d v F):v=kV q:=by
 cases a with
 | int i=>cases h; exact o
 | str i=>cases h; exact o
 | _=>cases h
def aR (ks:List (D × D)) (q:D):Option D:=(ks.find? fun kv=>kEq kv.1 q).map (·.2)
def fO (ks:List (D × D)) (q t:D):List (D × D):=if ks.any (fun kv=>kEq kv.1 q) then ks.map (fun kv=>if kEq kv.1 q then (kv.1,t) else kv) else ks++[(q,t)]
section
variable {K:PySem.W.Frag} {O:AS} {H:Hp} {d:Nat}
def Owd.look:∀ {ks:List (D × D)} {vs:List (Key × V)} {F:AS} (q:Key),Owd K O H ks d vs F->(∃ t v,aR ks (kD q)=some t/\dB vs q=some v/\Ow K O H t d v F)\/(aR ks (kD q)=none/\dB vs q=none)
 | [],_,_,q,h=>by rw [show _=[] from h]; exact .inr ⟨rfl,rfl⟩
 | (k,t) :: ks,_,F,q,h=>by
  obtain ⟨q',v,r,F1,F2,e,e2,s1,s2,_,h4,h5⟩:=h;subst e e2;by_cases hq:q'=q
  ·subst hq;refine .inl ⟨t,v,?_,iu rfl,Ow.grow (fun _ z=>z) t s1 h4⟩;unfold aR;rw [List.find?_cons,kK,zaB rfl];rfl
  ·have e1:aR ((kD q',t) :: ks) (kD q)=aR ks (kD q):=by
    unfold aR;rw [List.find?_cons,kK,zaA hq]
   have e2:dB ((q',v) :: r) q=dB r q:=iw hq;rw [e1,e2];rcases Owd.look q h5 with ⟨t',v',a1,a2,a3⟩ | z
   ·exact .inl ⟨t',v',a1,a2,Ow.grow (fun _ z=>z) t' s2 a3⟩
   ·exact .inr z
def Owd.any:∀ {ks:List (D × D)} {vs:List (Key × V)} {F:AS} (q:Key),Owd K O H ks d vs F->ks.any (fun kv=>kEq kv.1 (kD q))=vs.any (fun kv=>decide (kv.1=q))
 | [],_,_,q,h=>by rw [show _=[] from h]; rfl
 | (k,t) :: ks,_,F,q,h=>by
  obtain ⟨q',v,r,F1,F2,e,e2,_,_,_,_,h5⟩:=h;subst e e2;rw [List.any_cons,List.any_cons,kK,Owd.any q h5]
def Owd.len:∀ {ks:List (D × D)} {vs:List (Key × V)} {F:AS},Owd K O H ks d vs F->vs.length=ks.length
 | [],_,_,h=>by rw [show _=[] from h]; rfl
 | (k,t) :: ks,_,F,h=>by
  obtain ⟨q',v,r,F1,F2,e,e2,_,_,_,_,h5⟩:=h;rw [e,zac,zac,h5.len]
def Owd.rep0 {t:D} {v:V} {q:Key} (ht:Ow K O H t 0 v NoA):∀ {ks:List (D × D)} {vs:List (Key × V)},Owd K O H ks 0 vs NoA->Owd K O H (ks.map fun kv=>if kEq kv.1 (kD q) then (kv.1,t) else kv) 0 (vs.map fun kv=>if kv.1=q then (kv.1,v) else kv) NoA
 | [],_,h=>by rw [show _=[] from h]; rfl
 | (k,u) :: ks,_,h=>by
  obtain ⟨q',w,r,F1,F2,e,e2,_,_,_,h4,h5⟩:=h;subst e e2;rw [zar,zar];have ih:=Owd.rep0 (q:=q) ht (Owd.any0 ks h5)
  dsimp only
  rw [kK];by_cases hq:q'=q
  ·rw [if_pos hq,if_pos (zaB hq)];exact ⟨q',v,_,NoA,NoA,rfl,rfl,fun _ z=>z,fun _ z=>z,fun _ z=>z.elim,ht,ih⟩
  ·rw [if_neg hq,if_neg (by rw [zaA hq]; exact Bool.false_ne_true)];exact ⟨q',w,_,NoA,NoA,rfl,rfl,fun _ z=>z,fun _ z=>z,fun _ z=>z.elim,Ow.any0 u h4,ih⟩
def Owd.snoc0 {t:D} {v:V} {q:Key} (ht:Ow K O H t 0 v NoA):∀ {ks:List (D × D)} {vs:List (Key × V)},Owd K O H ks 0 vs NoA->Owd K O H (ks++[(kD q,t)]) 0 (vs++[(q,v)]) NoA
 | [],_,h=>by
  rw [show _=[] from h];exact ⟨q,v,[],NoA,NoA,rfl,rfl,fun _ z=>z,fun _ z=>z,fun _ z=>z.elim,ht,rfl⟩
 | (k,u) :: ks,_,h=>by
  obtain ⟨q',w,r,F1,F2,e,e2,_,_,_,h4,h5⟩:=h;subst e e2;exact ⟨q',w,_,NoA,NoA,rfl,rfl,fun _ z=>z,fun _ z=>z,fun _ z=>z.elim,Ow.any0 u h4,Owd.snoc0 ht (Owd.any0 ks h5)⟩
def Owd.put0 {t:D} {v:V} {q:Key} {ks:List (D × D)} {vs:List (Key × V)} (h:Owd K O H ks 0 vs NoA) (ht:Ow K O H t 0 v NoA):Owd K O H (fO ks (kD q) t) 0 (ce vs q v) NoA:=by
 unfold fO ce;rw [h.any q];by_cases hq:(vs.any fun kv=>decide (kv.1=q))=true
 ·rw [if_pos hq,if_pos hq];exact Owd.rep0 ht h
 ·rw [if_neg hq,if_neg hq];exact Owd.snoc0 ht h
def Owd.past {ks:List (D × D)} {vs:List (Key × V)} {F:AS} {l:Addr} {o:HO} {O':AS} (ho:∀ a,O' a->O a) (hl:O l) (hf:∀ b,F b->b≠l) (h:Owd K O H ks d vs F):Owd K O' (upd H l o) ks d vs F:=by
 refine Owd.mv (G:=F) ⟨fun a u q z=>?_,fun a z=>.inl (ho a z)⟩ ks (fun _ z=>z) h;rw [ay]
 ·exact q
 ·intro za;subst za;rcases z with z | z
  ·exact z hl
  ·exact hf a z rfl
def noT:List (D × D)->Bool
 | (.tuple _,_) :: _=>false
 | (.none,_) :: _=>false
 | _=>true
def DGet.kr {H:Hp} {a:Addr} {kvs:List (Key × V)} {k:Key} (e:Rd H a (.dK kvs)):DGet H a (kV k) (dB kvs k):=.inl ⟨kvs,k,e,rfl,rfl⟩
def Ow.dict0 {ks:List (D × D)} {v:V} (hk:noT ks=true) (h:Ow K O H (.dict ks) 0 v NoA):∃ a vs,v=.ref a/\Rd H a (.dK vs)/\Owd K O H ks 0 vs NoA:=by
 obtain ⟨a,vs,e,⟨_,h1,_,h2⟩ | ⟨z,_⟩ | ⟨_,⟨kk,b,h1,_⟩ | ⟨cn,C,h1,_⟩⟩⟩:=h
 ·exact ⟨a,vs,e,h1,h2⟩
 ·exact absurd rfl z
 ·rw [h1] at hk;cases hk
 ·rw [h1] at hk;cases hk
def Ow.dict1 {ks:List (D × D)} {v:V} {F:AS} (hd:d≠0) (h:Ow K O H (.dict ks) d v F):∃ a vs,v=.ref a/\H a=some (.dK vs)/\F a/\∃ F':AS,(∀ b,F' b->F b/\b≠a)/\Owd K O H ks (dn d) vs F':=by
 obtain ⟨a,vs,e,⟨z,_⟩ | ⟨_,h1,h2,h3⟩ | ⟨z,_⟩⟩:=h
 ·exact absurd z hd
 ·exact ⟨a,vs,e,h1,h2,h3⟩
 ·exact absurd z hd
end
def mY:ME:=eC (.dict [])
def l9:D->D->Option D
 | .dict ks,q=>(kOf q).bind fun _=>aR ks q
 | _,_=>none
def dIn:D->D->Option D
 | q,.dict ks=>if noT ks=true then (kOf q).map fun _=>.bool (aR ks q).isSome else none
 | _,_=>none
def fG:D->D->Option D
 | q,.dict ks=>if noT ks=true then (kOf q).map fun _=>.bool (!(aR ks q).isSome) else none
 | _,_=>none
section
variable {X:Cx} {K:PySem.W.Frag} {p:Bool} {J:Jd} {ds ds0 ds1 ds2 ds':List Nat} {d d' d1 d2:Nat} {a b c e o k:Expr} {f f1 f2 fk fe:ME} {pos px spos:Pos} {i:Nat} {σ:St} {H:Hp} {Q:VK} {Dn:Ends}
def B5:PE X (.Dict [] [] pos) (tF K p ds ds 3 mY):=pe_dnewK.imp fun σ H Q ⟨Ox,en,R,t,en',e,hf,k⟩=>by
 cases hf;intro l hl;have n:NewTo H (upd H l (.dK [])) (fun b=>b=l):=bB hl;exact k (.ref l) _ R _ (Post.new e n.1 n.2) ⟨l,[],rfl,.inr (.inl ⟨by decide,aw,rfl,NoA,fun _ z=>z.elim,rfl⟩)⟩
def F4 (h:tF K p ds ds2 0 (e2 l9 f1 f2) σ H Q):qr (tF K p ds ds1 d1 f1) (tF K p ds1 ds2 d2 f2) σ H Q:=by
 obtain ⟨Ox,en,R,t,en',e,hf,k⟩:=h;unfold e2 at hf;obtain ⟨⟨t1,en1⟩,h1,hf⟩:=zaa.mp hf;obtain ⟨⟨t2,en2⟩,h2,hf⟩:=zaa.mp hf;obtain ⟨t',h3,hf⟩:=zab.mp hf;cases hf;refine two (p1:=p) (p2:=p) e h1 h2 fun x y H2 R2 F1 F2 P o1 o2=>?_;rw [Bool.and_self] at P;have w1:=Ow.letgo P (fun _=>.inl) o1;cases t1 with
 | dict ks =>
  obtain ⟨q,hq,h3⟩:=zaa.mp h3;have hk:noT ks=true:=by
   cases ks with
   | nil=>rfl
   | cons kv r =>
    obtain ⟨k1,x1⟩:=kv;have go:(∃ (kk:List Key) (b:Bool),(k1,x1) :: r=[(.tuple (kk.map kD),.bool b)])\/(∃ cn,(k1,x1) :: r=[(.none,.str cn)])->False:=by
     rintro (⟨kk,b,h1⟩ | ⟨cn,h1⟩)
     ·cases h1;rw [gm hq] at h3
      have:kEq (.tuple (kk.map kD)) (kD q)=false:=by cases q <;> rfl
      have e:aR [(PyData.tuple (kk.map kD),PyData.bool b)] (kD q)=none:=by
       unfold aR;rw [List.find?_cons,this];rfl
      rw [e] at h3;cases h3
     ·cases h1;rw [gm hq] at h3
      have:kEq .none (kD q)=false:=by cases q <;> rfl
      have e:aR [(PyData.none,PyData.str cn)] (kD q)=none:=by
       unfold aR;rw [List.find?_cons,this];rfl
      rw [e] at h3;cases h3
    obtain ⟨a,vs,_,⟨_,_,_,h2⟩ | ⟨z,_⟩ | ⟨_,⟨kk,b,h1,_⟩ | ⟨cn,C,h1,_⟩⟩⟩:=w1
    ·obtain ⟨q',_,_,_,_,_,e2,_⟩:=h2;rw [e2];cases q' <;> rfl
    ·exact absurd rfl z
    ·exact (go (.inl ⟨kk,b,h1⟩)).elim
    ·exact (go (.inr ⟨cn,h1⟩)).elim
  obtain ⟨a,vs,ex,ha,ow⟩:=w1.dict0 hk;rw [gm hq] at h3;rcases ow.look q with ⟨t',v,a1,a2,a3⟩ | ⟨z,_⟩
  ·rw [h3] at a1;cases a1;refine ⟨a,v,ex,?_,k v H2 R2 NoA (P.less fun _ z=>z.elim) (by rw [gy]; exact a3)⟩;rw [<- a2,ig hq o2];exact DGet.kr ha
  ·rw [h3] at z; cases z
 | _=>cases h3
def B7 (hu:X.A.units+1 < cLine) (ho:PE X o (tF K p ds ds1 d1 f1)) (hi:PE X k (tF K p ds1 ds2 d2 f2)) (hs:mn k):PE X (.Subscript o k pos) (tF K p ds ds2 0 (e2 l9 f1 f2)):=(pi hu ho hi hs).imp fun _ _ _=>F4
def aP (i:Nat) (f:ME):ME:=fun en=>(en[i]?).join.bind fun _=>(f en).bind fun r=>match (r.2[i]?).join with
 | some (.dict ks)=>(kOf r.1).bind fun _=>(aR ks r.1).map fun t=>(t,r.2)
 | _=>none
def Cb (hd:ds1[i]?=some 1) (h:tF K p ds ds1 0 (aP i f) σ H Q):qr (eZ i) (tF K p ds ds1 d1 f) σ H Q:=by
 obtain ⟨Ox,en,R,t,en',e,hf,k⟩:=h;unfold aP at hf;obtain ⟨t0,h0,hf⟩:=zaa.mp hf;obtain ⟨⟨t1,en1⟩,h1,hf⟩:=zaa.mp hf
 dsimp only at hf
 split at hf
 case h_2=>cases hf
 next ks h2 =>
 obtain ⟨q,hq,hf⟩:=zaa.mp hf;obtain ⟨t',h3,hf⟩:=zab.mp hf;cases hf;obtain ⟨v,d0,a1,_,a3⟩:=e.at_ i _ (aM h0);refine ⟨v,a1,Ox,en,R,t1,_,e,h1,fun x H1 R1 F P o=>?_⟩;obtain ⟨v',d',b1,b2,b3⟩:=P.env.at_ i _ (aM h2);rw [a1] at b1;cases b1;rw [hd] at b2;cases b2;obtain ⟨l,vs,el,hl,hr,F',hf',ow⟩:=b3.dict1 (by decide);rw [gm hq] at h3;rcases ow.look q with ⟨t'',w,c1,c2,c3⟩ | ⟨z,_⟩
 ·rw [h3] at c1;cases c1;refine ⟨l,w,el,?_,k w H1 R1 NoA (P.less fun _ z=>z.elim) ?_⟩
  ·rw [<- c2,ig hq o];exact DGet.k hl
  ·exact Ow.any0 _ (Ow.grow (fun a z=>z.imp id fun z=>z.elim (fun z=>False.elim z) Or.inr) _ (fun _ z=>z) c3)
 ·rw [h3] at z; cases z
def uW {x:Str} (hu:X.A.units+1 < cLine) (hN:X.N[i]?=some x) (hv:Vis X.env.scope x) (h1:ds1[i]?=some 1) (hi:PE X k (tF K p ds ds1 d1 f)) (hs:mn k) (hd:(x == ("__debug__" : Str))=false) (hcd:(x == ("__classdict__" : Str))=false) :
  PE X (.Subscript (.Name x px) k pos) (tF K p ds ds1 0 (aP i f)):=(pi hu (bQ hN hv hd hcd) hi hs).imp fun _ _ _=>Cb h1
def Hg {neg:Bool} (h:tF K p ds ds2 3 (e2 (if neg then fG else dIn) f1 f2) σ H Q):(if neg then o0 else Hr) (tF K p ds ds1 d1 f1) (tF K p ds1 ds2 d2 f2) σ H Q:=by
 obtain ⟨Ox,en,R,t,en',e,hf,k⟩:=h;unfold e2 at hf;obtain ⟨⟨t1,en1⟩,h1,hf⟩:=zaa.mp hf;obtain ⟨⟨t2,en2⟩,h2,hf⟩:=zaa.mp hf;obtain ⟨t',h3,hf⟩:=zab.mp hf;cases hf;have go:∀ (b:Bool->Bool),(∃ q ks,t2=.dict ks/\noT ks=true/\kOf t1=some q/\t=.bool (b (aR ks t1).isSome))->tF K p ds ds1 d1 f1 σ H fun y H1=>tF K p ds1 ds2 d2 f2 σ H1 fun x H2=>∃ a o,x=.ref a/\DGet H2 a y o/\Q (.bl (b o.isSome)) H2:=fun b ⟨q,ks,e1,hk,e2,e3⟩=>by
  subst e1 e3;refine two (p1:=p) (p2:=p) e h1 h2 fun x y H2 R2 F1 F2 P o1 o2=>?_;rw [Bool.and_self] at P;obtain ⟨a,vs,ex,ha,ow⟩:=(Ow.letgo P (fun _=>.inr) o2).dict0 hk;rw [gm e2] at k;rcases ow.look q with ⟨t',v,a1,a2,a3⟩ | ⟨z1,z2⟩
  ·rw [a1] at k;refine ⟨a,some v,ex,?_,k _ H2 R2 NoA (P.less fun _ z=>z.elim) rfl⟩;rw [<- a2,ig e2 o1];exact DGet.kr ha
  ·rw [z1] at k;refine ⟨a,none,ex,?_,k _ H2 R2 NoA (P.less fun _ z=>z.elim) rfl⟩;rw [<- z2,ig e2 o1];exact DGet.kr ha
 cases neg with
 | true =>
  refine go (fun b=>!b) ?_;cases t2 with
  | dict ks =>
   have h4:(if noT ks=true then (kOf t1).map (fun _=>PyData.bool (!(aR ks t1).isSome)) else none)=some t:=h3;by_cases hk:noT ks=true
   ·rw [if_pos hk] at h4;obtain ⟨q,hq,e⟩:=zab.mp h4;exact ⟨q,ks,rfl,hk,hq,e.symm⟩
   ·rw [if_neg hk] at h4; cases h4
  | _=>cases t1 <;> cases h3
 | false =>
  refine go (fun b=>b) ?_;cases t2 with
  | dict ks =>
   have h4:(if noT ks=true then (kOf t1).map (fun _=>PyData.bool (aR ks t1).isSome) else none)=some t:=h3;by_cases hk:noT ks=true
   ·rw [if_pos hk] at h4;obtain ⟨q,hq,e⟩:=zab.mp h4;exact ⟨q,ks,rfl,hk,hq,e.symm⟩
   ·rw [if_neg hk] at h4; cases h4
  | _=>cases t1 <;> cases h3
def PC.imp {op:CmpOp} {t t':TE} (h:PC X op a b t) (hi:∀ σ H Q,t' σ H Q->t σ H Q):PC X op a b t':=fun pins s σ H Q I hw=>h pins s σ H Q I (hi _ _ _ hw)
def Bx (hu:X.A.units+1 < cLine) (ha:PE X a (tF K p ds ds1 d1 f1)) (hb:PE X b (tF K p ds1 ds2 d2 f2)) (h1:behindInMarks .NotIn b=false):PT X (.Compare a [.NotIn] [b] pos) (tFT K p ds ds2 (tV (e2 fG f1 f2))) :=
 (Ez ((rW hu ha hb).imp fun _ _ _=>Hg (neg:=true)) h1).imp fun _ _ _=>nW
def bE (i:Nat) (fk fe:ME):MS:=fun en=>(fe en).bind fun r=>match (r.2[i]?).join with
 | some _=>(fk r.2).bind fun q=>match (q.2[i]?).join with
  | some (.dict ks)=>(kOf q.1).bind fun _=>if ks.length < sizeLine then some (.nx (q.2.set i (some (.dict (fO ks q.1 r.1))))) else none
  | _=>none
 | none=>none
def BE (hd:ds2[i]?=some 1) (h:tFS K J ds ds2 (bE i fk fe) Dn σ H):Ao (eZ i) (tF K false ds1 ds2 d2 fk) (tF K false ds ds1 0 fe) Dn σ H:=by
 obtain ⟨Ox,en,R,fl,e,hf,k⟩:=h;unfold bE at hf;obtain ⟨⟨t1,en1⟩,h1,hf⟩:=zaa.mp hf
 dsimp only at hf
 split at hf
 case h_2=>cases hf
 next tt h0 =>
 obtain ⟨⟨t2,en2⟩,h2,hf⟩:=zaa.mp hf
 dsimp only at hf
 split at hf
 case h_2=>cases hf
 next ks h3 =>
 obtain ⟨q,hq,hf⟩:=zaa.mp hf;by_cases hlen:ks.length < sizeLine
 case neg=>rw [if_neg hlen] at hf; cases hf
 rw [if_pos hlen] at hf;cases hf;refine ⟨Ox,en,R,t1,en1,e,h1,fun x H1 R1 F1 P1 o1=>?_⟩;obtain ⟨v0,d0,a1,_,_⟩:=P1.env.at_ i tt (aM h0);refine ⟨v0,a1,?_⟩;refine ⟨U F1 Ox,en1,R1,t2,en2,P1.env,h2,fun y H2 R2 F2 P2 o2=>?_⟩;have P:=P1.trans P2;have o1':=Ow.over P1.env P2 o1;have w1:=Ow.letgo P (fun _=>.inl) o1';obtain ⟨v',d',b1,b2,b3⟩:=P.env.at_ i _ (aM h3);rw [a1] at b1;cases b1;rw [hd] at b2;cases b2;obtain ⟨l,vs,el,hl,hr,F',hf',ow⟩:=b3.dict1 (by decide);have eq:=ig hq o2;subst eq;refine ⟨l,_,el,DPut.k hl (by rw [ow.len]; exact hlen),?_⟩;have hi:i < en2.length:=(zah.mp (aM h3)).1;have gG:∀ a,(fun a=>R2 i a) a->R2 i a\/U F1 F2 a:=fun a z=>.inl z;have sub:=lf (i:=i) (R1:=R2) (Ox:=Ox) (G:=fun a=>R2 i a) (F':=NoA) (F:=U F1 F2) gG (fun _ z=>z.elim);have Ol:Own R2 (U (U F1 F2) Ox) l:=.inl ⟨i,hr⟩;have PS:=P.slot (G:=fun a=>R2 i a) (F':=NoA) (o2:=.dK (ce vs q x)) (t:=.dict (fO ks t2 t1)) hr hi a1 hd gG (fun _ z=>z.elim) (fun _ _ z=>z) ?_
 ·exact k σ _ _ PS.s
 refine ⟨l,ce vs q x,el,.inr (.inl ⟨by decide,aw,hr,NoA,fun _ z=>z.elim,?_⟩)⟩;rw [gm hq];refine Owd.put0 (Owd.past sub Ol (fun _ z=>z.elim) (Owd.any0 ks ow)) ?_;refine Ow.past (O:=Own R2 Ox) (fun a z=>?_) (.inl ⟨i,hr⟩) (fun _ z=>z.elim) w1;rcases z with ⟨j,z⟩ | z | z
 ·by_cases hj:j=i
  ·rw [if_pos hj] at z; exact .inl ⟨i,z⟩
  ·rw [if_neg hj] at z; exact .inl ⟨j,z⟩
 ·exact z.elim
 ·exact .inr z
def uN {x:Str} (hu:X.A.units+1 < cLine) (hN:X.N[i]?=some x) (hv:Vis X.env.scope x) (he:PE X e (tF K false ds ds1 0 fe)) (hk:PE X k (tF K false ds1 ds2 d2 fk)) (h1:ds2[i]?=some 1)
  (hdb:(x == ("__debug__" : Str))=false) (hcd:(x == ("__classdict__" : Str))=false) (hs:swapsWith e (some (.Subscript (.Name x px) k spos)) pos.line X.env=pure false) :
  PS X (.Assign [.Subscript (.Name x px) k spos] e pos) (tFS K J ds ds2 (bE i fk fe)):=(AX hu (bQ hN hv hdb hcd) hk he hs).imp fun _ _ _=>BE h1
end
def evP:List (ME × ME)->En->Option (List (D × D) × En)
 | [],en=>some ([],en)
 | (fk,fv) :: r,en=>(fk en).bind fun x=>(fv x.2).bind fun y=>(evP r y.2).bind fun z=>(kOf x.1).map fun _=>((x.1,y.1) :: z.1,z.2)
def ET (ks:List (D × D)):List (D × D):=ks.foldl (fun acc kv=>fO acc kv.1 kv.2) []
def fq (fs:List (ME × ME)):ME:=fun en=>(evP fs en).bind fun r=>if r.1.length<=15 then some (.dict (ET r.1),r.2) else none
def OwP (K:PySem.W.Frag) (O:AS) (H:Hp):List (D × D)->List (V × V)->Prop
 | [],ps=>ps=[]
 | (k,t) :: r,ps=>∃ q v s,ps=(kV q,v) :: s/\k=kD q/\Ow K O H t 0 v NoA/\OwP K O H r s
section
variable {X:Cx} {K:PySem.W.Frag} {p:Bool} {J:Jd} {ds ds0 ds1 ds2 ds':List Nat} {d d' d1 d2:Nat} {a b c e o k:Expr} {es:List Expr} {f f1 f2 fk fe:ME} {fa:MA} {sh:Sh} {pos px spos:Pos} {i j:Nat} {σ:St} {H:Hp} {Q:VK} {Dn:Ends}
def OwP.mv {O O':AS} {H H':Hp} (m:Mv O O' NoA H H'):∀ {ks:List (D × D)} {ps:List (V × V)},OwP K O H ks ps->OwP K O' H' ks ps
 | [],_,h=>h
 | (k,t) :: r,_,h=>by
  obtain ⟨q,v,s,e1,e2,o,h⟩:=h;exact ⟨q,v,s,e1,e2,Ow.mv m t (fun _ z=>z) o,OwP.mv m h⟩
def trs (K:PySem.W.Frag) (p:Bool) (ds:List Nat) (fs:List (ME × ME)):List (TE × TE):=fs.map fun q=>(tF K p ds ds 3 q.1,tF K p ds ds 0 q.2)
def A0 {R R1:Nat->AS} {Ox:AS} {en en1:En} {H1:Hp} {F:AS} (P:Post K p ds1 Ox σ H en R en1 H1 R1 F):Mv (Own R Ox) (Own R1 Ox) NoA H H1:=by
 refine ⟨fun a o q z=>P.keep a o q fun i zi=>?_,fun a z=>?_⟩
 ·rcases z with z | z
  ·exact z (.inl ⟨i,zi⟩)
  ·exact z
 ·rcases z with z | z
  ·exact (P.own a (.inr z)).imp .inl id
  ·exact .inl (.inr z)
def pU:∀ {fs:List (ME × ME)} {σ:St} {H:Hp} {Ox:AS} {en en':En} {R:Nat->AS} {ks:List (D × D)} {QP:List (V × V)->Hp->Prop},EnvOk K ds Ox H σ en R->evP fs en=some (ks,en') ->
  (∀ ps H' R',Post K p ds Ox σ H en R en' H' R' NoA->OwP K (Own R' Ox) H' ks ps->QP ps H')->kx (trs K p ds fs) σ H QP
 | [],σ,H,Ox,en,en',R,ks,QP,e,hf,k=>by
  cases hf;exact k [] H R (Post.refl e) rfl
 | (fk,fv) :: r,σ,H,Ox,en,en',R,ks,QP,e,hf,k=>by
  unfold evP at hf;obtain ⟨⟨t1,en1⟩,h1,hf⟩:=zaa.mp hf;obtain ⟨⟨t2,en2⟩,h2,hf⟩:=zaa.mp hf;obtain ⟨⟨ks3,en3⟩,h3,hf⟩:=zaa.mp hf;obtain ⟨q,hq,hf⟩:=zab.mp hf;cases hf;refine ⟨Ox,en,R,t1,en1,e,h1,fun x H1 R1 F1 P1 o1=>?_⟩;refine ⟨Ox,en1,R1,t2,en2,P1.env0,h2,fun y H2 R2 F2 P2 o2=>?_⟩;refine pU P2.env0 h3 fun ps H3 R3 P3 op=>?_;have PP:=(P1.after P2).after P3;rw [Bool.and_self,Bool.and_self] at PP;refine k _ H3 R3 PP ⟨q,y,ps,?_,gm hq,?_,op⟩
  ·rw [ig hq o1]
  ·exact Ow.mv (A0 P3) t2 (fun _ z=>z) (Ow.letgo P2 (fun _ z=>z) o2)
def nC {O:AS}:∀ {ks:List (D × D)} {kvs:List (Key × V)} {acc:List (D × D)} {avs:List (Key × V)},OwP K O H ks (kvs.map fun kv=>(kV kv.1,kv.2))->Owd K O H acc 0 avs NoA->Owd K O H (ks.foldl (fun acc kv=>fO acc kv.1 kv.2) acc) 0 (fA avs kvs) NoA
 | [],kvs,acc,avs,h,ha=>by
  have:kvs=[]:=List.map_eq_nil_iff.mp h;subst this;exact ha
 | (k,t) :: r,kvs,acc,avs,h,ha=>by
  obtain ⟨q,v,s,e1,e2,o,h⟩:=h;cases kvs with
  | nil=>cases e1
  | cons kv kvs =>
   rw [zar] at e1;injection e1 with e3 e4
   injection e3 with e5 e6
   have:=EY e5;subst this e6 e4 e2;exact nC (ks:=r) (kvs:=kvs) h (ha.put0 o)
def pj {O:AS}:∀ {ks:List (D × D)} {ps:List (V × V)},OwP K O H ks ps->∃ kvs:List (Key × V),ps=kvs.map (fun kv=>(kV kv.1,kv.2))/\kvs.length=ks.length
 | [],_,h=>⟨[],h,rfl⟩
 | (k,t) :: r,_,h=>by
  obtain ⟨q,v,s,e1,e2,o,h⟩:=h;obtain ⟨kvs,e3,e4⟩:=pj h;exact ⟨(q,v) :: kvs,by rw [e1,e3]; rfl,by rw [zac,zac,e4]⟩
def FZ {fs:List (ME × ME)} (h:tF K p ds ds 1 (fq fs) σ H Q):Ak (trs K p ds fs) σ H Q:=by
 obtain ⟨Ox,en,R,t,en',e,hf,k⟩:=h;unfold fq at hf;obtain ⟨⟨ks,en1⟩,h1,hf⟩:=zaa.mp hf;by_cases hl:ks.length<=15
 case neg=>rw [if_neg hl] at hf; cases hf
 rw [if_pos hl] at hf;cases hf;intro l hl0;have n0:=bB (o:=.dK []) hl0;have P0:Post K true ds Ox σ H en R en (upd H l (.dK [])) R (fun b=>b=l):=Post.new e n0.1 n0.2;refine pU P0.env h1 fun ps H2 R2 P op=>?_;obtain ⟨kvs,e1,e2⟩:=pj op;have lO:U (fun b=>b=l) Ox l:=.inl rfl;have hl2:H2 l=some (.dK []):=P.keep l _ aw fun i z=>by
  obtain ⟨o,q⟩:=e.dom l (.inl ⟨i,z⟩);rw [hl0] at q;cases q
 have nl2:∀ i,¬ R2 i l:=fun i z=>P.env.dx i l z (.inr lO);refine ⟨hl2,kvs,e1,by omega,?_⟩;have PP:=P0.trans P;rw [Bool.true_and] at PP;have eU:U (fun b=>b=l) NoA=(fun b=>b=l):=dq fun a=>⟨fun z=>z.elim id fun z=>z.elim,.inl⟩;rw [eU] at PP;have keepl:∀ a o,H2 a=some o->a≠l->upd H2 l (.dK (fA [] kvs)) a=some o:=fun a o q n=>by rw [ay n]; exact q
 have OO:∀ a,Own R2 (U (fun b=>b=l) Ox) a->Own R2 (U (U (fun b=>b=l) Ox) NoA) a:=fun a z=>z.imp id .inl;refine k (.ref l) _ R2 (fun b=>b=l) ⟨⟨fun j u hu=>?_,PP.env.dj,PP.env.dx,fun a z=>?_,PP.env.l1,PP.env.l2⟩,PP.fx,fun a o q n=>?_,PP.own,fun a o q=>?_,fun hp=>?_⟩ ⟨l,_,rfl,.inr (.inl ⟨by decide,aw,rfl,NoA,fun _ z=>z.elim,?_⟩)⟩
 ·obtain ⟨v',d',g1,g2,g3⟩:=PP.env.at_ j u hu;refine ⟨v',d',g1,g2,Ow.mv (G:=R2 j) ⟨fun a o q z=>keepl a o q fun za=>?_,fun a z=>.inl z⟩ u (fun _ z=>z) g3⟩;subst za;rcases z with z | z
  ·exact z (.inr lO)
  ·exact nl2 j z
 ·by_cases ha:a=l
  ·subst ha; exact ⟨_,aw⟩
  ·obtain ⟨o,q⟩:=PP.env.dom a z;exact ⟨o,keepl a o q ha⟩
 ·refine keepl a o (PP.keep a o q n) fun za=>?_;subst za;rw [hl0] at q;cases q
 ·obtain ⟨o',q'⟩:=PP.dom a o q;by_cases ha:a=l
  ·subst ha; exact ⟨_,aw⟩
  ·exact ⟨o',keepl a o' q' ha⟩
 ·obtain ⟨b1,b2,b3⟩:=PP.pure hp;refine ⟨b1,b2,fun a o q=>keepl a o (b3 a o q) fun za=>?_⟩;subst za;rw [hl0] at q;cases q
 ·have op2:OwP K (Own R2 (U (fun b=>b=l) Ox)) (upd H2 l (.dK (fA [] kvs))) ks (kvs.map fun kv=>(kV kv.1,kv.2)):=by
   rw [e1] at op;refine OwP.mv ⟨fun a o q z=>keepl a o q fun za=>?_,fun a z=>.inl z⟩ op;subst za;rcases z with z | z
   ·exact z (.inr lO)
   ·exact z
  exact nC op2 rfl
def B6 {keys:List (Option Expr)} {values:List Expr} {fs:List (ME × ME)} (h:PPs X pos keys values (trs K p ds fs)) (hall:keys.all (·.isSome)=true) (hl:keys.length=values.length) (h0:keys≠[]) (h15:keys.length<=15) :
  PE X (.Dict keys values pos) (tF K p ds ds 1 (fq fs)):=(A6 h hall hl h0 h15).imp fun _ _ _=>FZ
def Fv:PPs X pos [] [] (trs K p ds []):=AZ
def BL {k v:Expr} {ks:List (Option Expr)} {vs:List Expr} {fk fv:ME} {fs:List (ME × ME)} (hk:PE X k (tF K p ds ds 3 fk)) (hv:PE X v (tF K p ds ds 0 fv)) (hr:PPs X pos ks vs (trs K p ds fs)):PPs X pos (some k :: ks) (v :: vs) (trs K p ds ((fk,fv) :: fs)):=uf hk hv hr
def Iw (i j:Nat) (fa:MA):MS:=fun en=>(fa en).bind fun r=>match r.1 with
 | [.inl a,.inl b]=>some (.nx ((r.2.set i (some a)).set j (some b)))
 | _=>none
end
section
variable {X:Cx} {K:PySem.W.Frag}
end
section
variable {X:Cx} {K:PySem.W.Frag} {O:AS} {H:Hp} {ts us:List D} {vs ws:List V} {x y:V} {d:Nat} {Q:VK}
def cL:List D->Option (List Int)
 | []=>some []
 | .int i :: r=>(cL r).map (i :: ·)
 | _ :: _=>none
def kf:∀ {ts:List D} {vs:List V} {bs:List Int},Ows K O H ts 0 vs NoA->cL ts=some bs->vs=bs.map V.int
 | [],_,_,h,hb=>by cases hb; exact h
 | .int b :: r,_,_,h,hb=>by
  obtain ⟨v,w,F1,F2,e,_,_,_,h4,h5⟩:=h;obtain ⟨bs',h6,h7⟩:=zab.mp hb;subst e h7;rw [show v=.int b from h4,kf (Ows.any0 r h5) h6];rfl
 | .none :: _,_,_,_,hb=>by cases hb
 | .bool _ :: _,_,_,_,hb=>by cases hb
 | .str _ :: _,_,_,_,hb=>by cases hb
 | .list _ :: _,_,_,_,hb=>by cases hb
 | .tuple _ :: _,_,_,_,hb=>by cases hb
 | .dict _ :: _,_,_,_,hb=>by cases hb
def tW:List D->Option D
 | [.list ts]=>(cL ts).map fun ns=>.int ns.sum
 | _=>none
end
section
variable {X:Cx} {K:PySem.W.Frag} {p:Bool} {ds ds1:List Nat} {O:AS} {H:Hp} {σ:St} {d:Nat} {f:ME} {i:Nat} {e:Expr} {Q:VK}
end
section
variable {X:Cx} {K:PySem.W.Frag} {p:Bool} {ds ds1:List Nat} {d:Nat} {fa:MA} {sh:Sh} {O O1:AS} {H0 H:Hp} {ts us:List D} {vs ws:List V} {a b:Addr}
def cH (ts us:List D):List D:=List.zipWith (fun x y=>.tuple [x,y]) ts us
def rX {t u:D} {v w:V} {q:Addr} (hp:H q=none) (h3:∀ a,O1 a->∃ o,H a=some o) (ov:Ow K O1 H t 0 v NoA) (ow:Ow K O1 H u 0 w NoA):(∀ a o,H a=some o->upd H q (.tup [v,w]) a=some o)/\Ow K O1 (upd H q (.tup [v,w])) (.tuple [t,u]) 0 (.ref q) NoA:=by
 have g:=(bB (o:=.tup [v,w]) hp).1;refine ⟨g,q,[v,w],rfl,.inl ⟨rfl,⟨aw,fun z=>?_⟩,v,[w],NoA,NoA,rfl,fun _ z=>z,fun _ z=>z,fun _ z=>z.elim,?_,w,[],NoA,NoA,rfl,fun _ z=>z,fun _ z=>z,fun _ z=>z.elim,?_,rfl⟩⟩
 ·obtain ⟨o,e⟩:=h3 q z;rw [hp] at e;cases e
 ·exact Ow.mv (G:=NoA) ⟨fun a o e _=>g a o e,fun a z=>.inl z⟩ t (fun _ z=>z) ov
 ·exact Ow.mv (G:=NoA) ⟨fun a o e _=>g a o e,fun a z=>.inl z⟩ u (fun _ z=>z) ow
def tN (h:FzL K O H0 a vs) (ho:Ows K O H0 ts 0 vs NoA) (h':FzL K O H0 b ws) (ho':Ows K O H0 us 0 ws NoA):gx K O H0 (Itz K a b) (cH ts us):=fun i H O1 h1 h2 h3=>by
 have sq:=(h.mv (bm h1 h2)).sq;have sq':=(h'.mv (bm h1 h2)).sq;refine ⟨fun u hu=>?_,fun hl=>⟨vs,ws,sq,sq',?_⟩⟩
 ·unfold cH at hu;rw [List.getElem?_zipWith] at hu;split at hu
  case h_2=>cases hu
  next t t' ht ht' =>
  cases hu;obtain ⟨v,hv,ov⟩:=ho.get ht;obtain ⟨w,hw,ow⟩:=ho'.get ht';refine ⟨⟨vs,ws,v,w,sq,sq',hv,hw⟩,fun x H1 ⟨q,v',w',e1,hp,e2,y1,y2⟩=>?_⟩;have e3:=y1 vs sq;have e4:=y2 ws sq';rw [hv] at e3;rw [hw] at e4;cases e3;cases e4;subst e1 e2;exact rX hp h3 (Ow.mv (bm h1 h2) t (fun _ z=>z) ov) (Ow.mv (bm h1 h2) t' (fun _ z=>z) ow)
 ·unfold cH at hl;rw [List.length_zipWith] at hl;rw [ho.len,ho'.len];omega
def qR (fa:MA):MI:=fun en=>(fa en).bind fun r=>match r.1 with
 | [.inl (.list ts),.inl (.list us)]=>some (cH ts us,r.2)
 | _=>none
def Fz {l m:Expr} {px pos:Pos} {elts:List Expr} {k:Nat} {tp:Pos} (hK:X.K=K) (hg:Gl X "zip") (hm:X.mg "zip"=none) (ha:PA X [l,m] (tFA K p ds ds1 sh fa)) (hs:aD l=true) (hs2:aD m=true) :
  PI X (.Tuple elts k tp) (.Call (.Name "zip" px) [l,m] [] pos) (tFI K p ds ds1 (qR fa)) :=
 (Bk hK hg hm ha (by rw [aJ hs]) (by rw [aJ hs2]; rfl)).imp fun σ H R ⟨Ox,en,Rg,ts,en',e,hf,k⟩=>by
  unfold qR at hf;obtain ⟨⟨as,en1⟩,h1,hf⟩:=zaa.mp hf;refine ⟨Ox,en,Rg,as,en1,e,h1,fun vs H1 R1 F P o=>?_⟩
  dsimp only at hf
  split at hf
  case h_2=>cases hf
  next t1 t2 =>
  cases hf;obtain ⟨v,r,d,dr,F1,F2,e1,e2,s1,s2,_,o1,v2,r2,d2,dr2,G1,G2,e3,e4,s3,_,_,o2,o3⟩:=o;obtain ⟨_,o3⟩:=o3;subst e1 e3 o3;have q1:=Ow.letgo P s1 o1;have q2:=Ow.letgo P (fun b z=>s2 b (s3 b z)) o2;obtain ⟨a,xs,f1,⟨_,fz,ow⟩ | ⟨z,_⟩⟩:=q1
  ·obtain ⟨b,ys,f2,⟨_,fz2,ow2⟩ | ⟨z,_⟩⟩:=q2
   ·subst f1 f2;exact ⟨a,b,rfl,⟨xs,fz.sq⟩,⟨ys,fz2.sq⟩,k _ H1 R1 (P.less fun _ z=>z.elim) (tN fz ow fz2 ow2)⟩
   ·exact absurd rfl z
  ·exact absurd rfl z
end
section
variable {X:Cx} {K:PySem.W.Frag} {p:Bool} {ds ds1:List Nat} {d1:Nat} {e:Expr} {f:ME}
def qj:List String:=["int", "bool", "str", "list", "tuple", "dict"]
def pH (a:D):∀ {Ts:List String},(∀ T∈Ts,T∈qj)->PySem.W.kitAny K (.type (tyN a)) (Ts.map Value.type)=some (Ts.any fun T=>aB (tyN a) T)
 | [],_=>rfl
 | T :: Ts,h=>by
  have e1:=lT (K:=K) (h T zaq) a;have e2:=pH a (Ts:=Ts) fun x hx=>h x (zaj _ hx);show (match PySem.W.kitOne K (.type (tyN a)) (.type T) with
   | some true=>some true
   | some false=>PySem.W.kitAny K (.type (tyN a)) (Ts.map Value.type)
   | none=>none)=_
  rw [e1,List.any_cons];cases aB (tyN a) T with
  | true=>rfl
  | false=>rw [e2]; rfl
def GA (K:PySem.W.Frag):List V->Hp->VK->Prop:=fun xs H Q=>∃ (x:V) (tp:Addr) (Ts:List String) (O:AS) (a:D),xs=[x,.ref tp]/\Ow K O H a 0 x NoA/\isX a=false/\H tp=some (.tup (Ts.map V.ty))/\(∀ T∈Ts,T∈qj)/\Q (.bl (Ts.any fun T=>aB (tyN a) T)) H
def oY:∀ {Ts:List String} {us:List Value},Vals (Ts.map V.ty) us->us=Ts.map Value.type
 | [],_,.nil=>rfl
 | T :: Ts,_,.cons h t=>by
  rw [oY t];exact congrArg (· :: Ts.map Value.type) h
def tE:CallR X (.builtin "isinstance") (GA X.K):=by
 intro pins s σ H xs us Q I r h;obtain ⟨x,tp,Ts,O,a,rfl,oa,hX,ht,hT,q⟩:=h;obtain ⟨u,u2,rfl,r1,r2⟩:=r.two;cases r2;have ek:=pH (K:=X.K) a hT;obtain ⟨zl,its,rv,o,h1,h2,n,h3,_⟩:=(show ObjOk X.prog X.w H s.heap tp (.tup (Ts.map V.ty)) from I.hok tp _ ht);have ei:=oY rv;subst ei;obtain ⟨oc,od,oda,os⟩:=o;cases h2;cases h3;have fin:∀ tk,EP X pins σ Q (.bool (Ts.any fun T=>aB (tyN a) T)) { s with toks:=tk }:=fun tk=>⟨.bl _,H,I.tok tk,rfl,q⟩;cases a with
 | none =>
  have:x=.non:=oa;subst this;cases (show u=Value.none from r1);exact PySem.W.kia_tup PySem.W.kitx_none I.kIn True.intro h1 ek (fun z=>nomatch z) fin
 | bool b =>
  have:x=.bl b:=oa;subst this;cases (show u=Value.bool b from r1);exact PySem.W.kia_tup PySem.W.kitx_bool I.kIn True.intro h1 ek (fun z=>nomatch z) fin
 | int b =>
  have:x=.int b:=oa;subst this;obtain ⟨t,rfl⟩:=(show ∃ t,u=Value.int b t from r1);exact PySem.W.kia_tup PySem.W.kitx_int I.kIn True.intro h1 ek (fun z=>nomatch z) fin
 | str b =>
  have:x=.str b:=oa;subst this;obtain ⟨t,rfl⟩:=(show ∃ t,u=Value.str b t from r1);exact PySem.W.kia_tup PySem.W.kitx_str I.kIn True.intro h1 ek (fun z=>nomatch z) fin
 | tuple ts =>
  obtain ⟨p,vs,rfl,fz,w⟩:=oa.tup0;cases r1;obtain ⟨its,rv,pl,_⟩:=I.tuple fz.sq;obtain ⟨o,g1,g2,_⟩:=pl;exact PySem.W.kia_tup PySem.W.kitx_tuple I.kIn ⟨o,g1,g2⟩ h1 ek (fun z=>nomatch z) fin
 | dict ts =>
  have go:∀ {p:Addr} {kvs:List (Key × V)},x=.ref p->Rd H p (.dK kvs)->wpAny (model X.prog X.w) X.A (call (.builtin "isinstance") [u,.ref tp]) (EP X pins σ Q) X.xe s:=fun {p kvs} ex ea=>by
   subst ex;cases (show u=Value.ref p from r1);obtain ⟨_,_,vs,_,pp⟩:=(show ObjOk X.prog X.w H s.heap p (.dK kvs) from ea.ok I.hok);obtain ⟨o,es,ep,g1,g2,_⟩:=pp;exact PySem.W.kia_tup PySem.W.kitx_dict I.kIn ⟨o,g1,g2.1⟩ h1 ek (fun z=>nomatch z) fin
  obtain ⟨p,vs,ex,⟨_,h1,_⟩ | ⟨_,h1,_⟩ | ⟨_,⟨kk,b,_,h2,_⟩ | ⟨cn,C,h0,_⟩⟩⟩:=oa
  ·exact go ex h1
  ·exact go ex (.inl h1)
  ·subst ex;cases (show u=Value.ref p from r1);obtain ⟨_,_,xs,_,o,es,ep,g1,g2,_⟩:=(show ObjOk X.prog X.w H s.heap p (.dT _) from I.hok p _ h2);exact PySem.W.kia_tup PySem.W.kitx_dict I.kIn ⟨o,g1,g2.1⟩ h1 ek (fun z=>nomatch z) fin
  ·subst h0; cases hX
 | list ts =>
  obtain ⟨p,vs,rfl,fz,w⟩:=oa.lst0;cases r1;obtain ⟨its,rv,pl,_⟩:=I.list fz.sq;obtain ⟨o,n,g1,g2,_⟩:=pl;exact PySem.W.kia_tup PySem.W.kitx_list I.kIn ⟨o,g1,g2⟩ h1 ek (fun z=>nomatch z) fin
def fN (Ts:List String):D->Option D:=fun a=>if isX a=true then none else some (.bool (Ts.any fun T=>aB (tyN a) T))
def B1 {T1 T2:Str} {n1 n2:String} {px p1 p2 pos tp:Pos} {kk:Nat} (hK:X.K=K) (hg:Gl X "isinstance") (hm:X.mg "isinstance"=none) (hg1:Gl X T1) (hm1:X.mg T1=none) (hb1:bootBuiltins T1=some (.type n1)) (hg2:Gl X T2) (hm2:X.mg T2=none) (hb2:bootBuiltins T2=some (.type n2)) (hT:∀ T∈[n1,n2],T∈qj) (he:PE X e (tF K p ds ds1 d1 f))
  (hn1:T1≠"__name__") (hd1:(T1 == ("__debug__" : Str))=false) (hn2:T2≠"__name__") (hd2:(T2 == ("__debug__" : Str))=false) (hs:aD e=true) :
  PE X (.Call (.Name "isinstance" px) [e,.Tuple [.Name T1 p1,.Name T2 p2] kk tp] [] pos) (tF K p ds ds1 3 (e1 (fN [n1,n2]) f)):=by
 subst hK;refine (ke tE hg hm boot_isinstance (bM he (bM (no (bM (lF (v:=.ty n1) hg1 hm1 hb1 rfl hn1 hd1) (bM (lF (v:=.ty n2) hg2 hm2 hb2 rfl hn2 hd2) pa_nil (aJ rfl)) (aJ rfl))) pa_nil (aJ rfl)) (aJ hs)) (by decide) (by decide) (aJ hs) (dO rfl)).imp fun σ H Q h=>?_;obtain ⟨Ox,en,R,t,en',e,hf,k⟩:=h;unfold e1 at hf;obtain ⟨⟨t1,en1⟩,h1,hf⟩:=zaa.mp hf;obtain ⟨t',h3,hf⟩:=zab.mp hf;cases hf;unfold fN at h3;by_cases hX:isX t1=true
 ·rw [if_pos hX] at h3; cases h3
 rw [if_neg hX] at h3;cases h3;refine ⟨Ox,en,R,t1,en1,e,h1,fun v H' R' F P o=>?_⟩;refine ⟨zau (by show 2<=63; decide) (by rw [sizeLine_eq]; decide),fun q hq=>?_⟩;have g:=(bB (o:=.tup [.ty n1,.ty n2]) hq).1;refine ⟨v,q,[n1,n2],Own R' Ox,t1,rfl,Ow.mv (G:=NoA) ⟨fun a o e _=>g a o e,fun a z=>.inl z⟩ t1 (fun _ z=>z) (Ow.letgo P (fun _ z=>z) o),Bool.eq_false_iff.mpr hX,aw,hT,?_⟩;exact k _ _ R' NoA ((P.less (F':=NoA) fun _ z=>z.elim).fin ⟨g,fun _ z=>z.elim⟩) rfl
end
section
variable {X:Cx} {K:PySem.W.Frag} {p p1 p2:Bool} {ds ds1 ds2:List Nat} {d d1:Nat} {e:Expr} {f:ME} {fa:MA} {sh:Sh} {σ:St} {H:Hp} {Q:VK}
def eM (g:Str->List D->Option D) (f:ME) (fa:MA):ME:=fun en=>(f en).bind fun r=>match r.1 with
 | .str z=>(fa r.2).bind fun q=>(vals q.1).bind fun ts=>(g z ts).map fun t=>(t,q.2)
 | _=>none
def Ip:Str->List D->Option D
 | sep,[.list ts]=>(strsOf ts).bind fun ys=>if sep.length<=16/\(ys.map (·.length)).sum+ys.length<=1048576 then some (.str (Txt.join sep ys)) else none
 | sep,[.tuple ts]=>(strsOf ts).bind fun ys=>if sep.length<=16/\(ys.map (·.length)).sum+ys.length<=1048576 then some (.str (Txt.join sep ys)) else none
 | _,_=>none
where strsOf:List D->Option (List Str)
 | []=>some []
 | .str z :: r=>(strsOf r).map (z :: ·)
 | _ :: _=>none
def HS:Str->List D->Option D
 | z,[.str y]=>some (.bool (Txt.startswith z y))
 | _,_=>none
def Iq:Str->List D->Option D
 | z,[.str y]=>some (.bool (Txt.endswith z y))
 | _,_=>none
end
section
variable {X:Cx} {K:PySem.W.Frag} {pins:List (Addr × Obj)} {σ:St} {H:Hp} {s:Shared} {O:AS}
mutual
theorem Ow.reads (I:Inv X pins σ H s):∀ (t:D) {v:V} {u:Value},noDict t=true->Ow X.K O H t 0 v NoA->RelV v u->∃ as,Reads s.heap u t as
 | .none,_,_,_,h,r=>by
  cases (show _=V.non from h);cases r;exact ⟨_,.none⟩
 | .bool b,_,_,_,h,r=>by
  cases (show _=V.bl b from h);cases r;exact ⟨_,.bool _⟩
 | .int i,_,_,_,h,r=>by
  cases (show _=V.int i from h);obtain ⟨t,rfl⟩:=r;exact ⟨_,.int _ _⟩
 | .str x,_,_,_,h,r=>by
  cases (show _=V.str x from h);obtain ⟨t,rfl⟩:=r;exact ⟨_,.str _ _⟩
 | .list ts,_,_,hn,h,r=>by
  obtain ⟨p,vs,rfl,fz,w⟩:=h.lst0;cases r;obtain ⟨its,rv,⟨o,n,e1,e2,_,e3⟩,_⟩:=I.list fz.sq;obtain ⟨as,ra⟩:=Ows.reads I ts (by simpa [noDict] using hn) w rv;exact ⟨_,.list e1 e2 e3 (by simpa using ra)⟩
 | .tuple ts,_,_,hn,h,r=>by
  obtain ⟨p,vs,rfl,fz,w⟩:=h.tup0;cases r;obtain ⟨its,rv,⟨o,e1,e2,n,e3⟩,_⟩:=I.tuple fz.sq;obtain ⟨as,ra⟩:=Ows.reads I ts (by simpa [noDict] using hn) w rv;exact ⟨_,.tuple e1 e2 e3 (by simpa using ra)⟩
 | .dict _,_,_,hn,_,_=>by simp [noDict] at hn
theorem Ows.reads (I:Inv X pins σ H s):∀ (ts:List D) {vs:List V} {us:List Value},aG ts=true->Ows X.K O H ts 0 vs NoA->Vals vs us->∃ as,ReadsAll s.heap us ts as
 | [],_,_,_,h,r=>by
  cases (show _=[] from h);cases r;exact ⟨_,.nil⟩
 | t :: ts,_,_,hn,h,r=>by
  obtain ⟨v,q,F1,F2,e,_,_,_,h4,h5⟩:=h;subst e;have hn':noDict t=true/\aG ts=true:=by simpa [aG] using hn
  cases r with
  | cons ru rr =>
   obtain ⟨as,a1⟩:=Ow.reads I t hn'.1 (Ow.any0 t h4) ru;obtain ⟨bs,a2⟩:=Ows.reads I ts hn'.2 (Ows.any0 ts h5) rr;exact ⟨_,.cons a1 a2⟩
end
mutual
theorem iF:∀ t:D,noDict t=true->t.hasDict=false
 | .none,_=>by simp only [PyData.hasDict]
 | .bool _,_=>by simp only [PyData.hasDict]
 | .int _,_=>by simp only [PyData.hasDict]
 | .str _,_=>by simp only [PyData.hasDict]
 | .list ts,h=>by simp only [PyData.hasDict]; exact gW ts (by simpa [noDict] using h)
 | .tuple ts,h=>by simp only [PyData.hasDict]; exact gW ts (by simpa [noDict] using h)
 | .dict _,h=>by simp [noDict] at h
theorem gW:∀ ts:List D,aG ts=true->PyData.hasDictAll ts=false
 | [],_=>by simp only [PyData.hasDictAll]
 | t :: ts,h=>by
  have h':noDict t=true/\aG ts=true:=by simpa [aG] using h
  simp only [PyData.hasDictAll,iF t h'.1,gW ts h'.2,Bool.or_self]
end
def qt:List D->Option D
 | [.dict []]=>some (.str "{}")
 | [t]=>grd (noDict t=true/\t.showable=true/\t.depth<=60/\t.shown.length<=sizeLine) (.str t.shown)
 | _=>none
def BN (hK:X.K=K) (hg:X.A.guards=some []) (hu:X.A.units+64 < cLine):CallR X (.builtin "repr") (rFn K qt 3):=by
 subst hK;intro pins s σ H xs us Q I r ⟨O,as,t,oa,hd,hr,k⟩;unfold qt at hr;split at hr
 ·cases hr;obtain ⟨v,rfl,o⟩:=oa.one;obtain ⟨a,vs,rfl,g1,g2⟩:=o.dict0 rfl;have e:vs=[]:=g2;subst e;exact qW hg hu pins s σ H _ us Q I r ⟨_,_,rfl,.inr ⟨a,rfl,g1,rfl⟩,k _ H NoA .refl rfl⟩
 ·next d hne =>
  obtain ⟨⟨c1,c2,c3,c4⟩,rfl⟩:=cj hr;obtain ⟨v,rfl,o⟩:=oa.one;obtain ⟨u,rfl,ru⟩:=cF r;obtain ⟨as,rd⟩:=Ow.reads I d c1 o ru;have q:=k (.str d.shown) H NoA .refl rfl;cases d with
  | none =>
   cases (show v=V.non from o);cases ru;have e:(PyData.none).shown=("None" : Str):=PyData.shown_none;rw [e] at q;exact P.repr_of_none ⟨.str _,H,I.tok _,⟨_,rfl⟩,q⟩
  | bool b =>
   cases (show v=V.bl b from o);cases ru;have e:(PyData.bool b).shown=(if b then "True" else "False" : Str):=PyData.shown_bool b;rw [e] at q;exact P.repr_of_bool ⟨.str (if b then "True" else "False"),H,I.tok _,⟨_,rfl⟩,q⟩
  | int i =>
   cases (show v=V.int i from o);obtain ⟨t,rfl⟩:=ru;have e:(PyData.int i).shown=((toString i:String):Str):=PyData.shown_int i;rw [e] at q;have hl:i.natAbs.log2 < 1920:=by simpa [PyData.showable] using c2
   exact P.repr_of_int hl ⟨.str _,H,I.tok _,⟨_,rfl⟩,q⟩
  | str y =>
   cases (show v=V.str y from o);obtain ⟨t,rfl⟩:=ru;have e:(PyData.str y).shown=reprText y:=PyData.shown_str y;rw [e] at q c4;exact P.repr_of_str ⟨.str _,H,I.tok _,⟨_,rfl⟩,q⟩ c4
  | list ts =>
   obtain ⟨p,vs,rfl,_,_⟩:=o.lst0;cases ru;exact repr_of_reads' rd c2 (PyData.noDict_hsm (iF _ c1)) hg (by omega) (fun _ _ e=>e) (fun h' u tk hk=>⟨.str _,H,I.kept (t':=tk) hk,⟨_,rfl⟩,q⟩) c4
  | tuple ts =>
   obtain ⟨p,vs,rfl,_,_⟩:=o.tup0;cases ru;exact repr_of_reads' rd c2 (PyData.noDict_hsm (iF _ c1)) hg (by omega) (fun _ _ e=>e) (fun h' u tk hk=>⟨.str _,H,I.kept (t':=tk) hk,⟨_,rfl⟩,q⟩) c4
  | dict _=>simp [noDict] at c1
 ·cases hr
end
section
open PySem.SeqAt Classical
variable {X:Cx} {K:PySem.W.Frag} {pins:List (Addr × Obj)} {σ:St} {H:Hp} {s:Shared} {O:AS}
end
def dns:Nat->Nat->Nat
 | 0,d=>d
 | m+1,d=>dns m (dn d)
def oo:∀ m,dns m 0=0
 | 0=>rfl
 | m+1=>oo m
def tj {m d:Nat} (h:dns m d≠0):d≠0:=fun z=>h (by rw [z]; exact oo m)
def bA:D->List Nat->Option D
 | t,[]=>some t
 | .list ts,k :: π=>(ts[k]?).bind fun u=>bA u π
 | .tuple ts,k :: π=>(ts[k]?).bind fun u=>bA u π
 | _,_ :: _=>none
def bg:D->List Nat->D->D
 | _,[],u=>u
 | .list ts,k :: π,u=>.list (ts.set k ((ts[k]?).elim .none fun c=>bg c π u))
 | .tuple ts,k :: π,u=>.tuple (ts.set k ((ts[k]?).elim .none fun c=>bg c π u))
 | t,_ :: _,_=>t
def PathV (H:Hp):V->List Nat->V->Prop
 | v,[],w=>v=w
 | v,k :: π,w=>∃ a vs u,v=.ref a/\(H a=some (.lst vs)\/H a=some (.tup vs))/\vs[k]?=some u/\PathV H u π w
def PathV.mono {H H':Hp} (hk:∀ a o,H a=some o->H' a=some o):∀ {π:List Nat} {v w:V},PathV H v π w->PathV H' v π w
 | [],_,_,h=>h
 | _ :: _,_,_,⟨a,vs,u,e,h1,h2,h3⟩=>⟨a,vs,u,e,h1.imp (hk _ _) (hk _ _),h2,h3.mono hk⟩
def PathV.det {H:Hp}:∀ {π:List Nat} {v w w':V},PathV H v π w->PathV H v π w'->w=w'
 | [],_,_,_,h,g=>h.symm.trans g
 | _ :: _,_,_,_,⟨a,vs,u,e,h1,h2,h3⟩,⟨a',vs',u',e',g1,g2,g3⟩=>by
  rw [e] at e';cases e'
  have:vs=vs':=by
   rcases h1 with h1 | h1 <;> rcases g1 with g1 | g1 <;> rw [h1] at g1 <;> cases g1 <;> rfl
  subst this;rw [h2] at g2;cases g2;exact h3.det g3
def PathV.snoc {H:Hp} {a:Addr} {vs:List V} {u:V} {k:Nat} (h1:H a=some (.lst vs)\/H a=some (.tup vs)) (h2:vs[k]?=some u):∀ {π:List Nat} {v:V},PathV H v π (.ref a)->PathV H v (π++[k]) u
 | [],_,h=>⟨a,vs,u,h,h1,h2,rfl⟩
 | _ :: _,_,⟨a',vs',u',e,g1,g2,g3⟩=>⟨a',vs',u',e,g1,g2,PathV.snoc h1 h2 g3⟩
section
variable {K:PySem.W.Frag} {O:AS} {H:Hp}
def Ows.zoom {d:Nat}:∀ {ts:List D} {vs:List V} {F:AS} {k:Nat} {u:D},Ows K O H ts d vs F->ts[k]?=some u ->
  ∃ w,∃ F1 F2:AS,vs[k]?=some w/\(∀ b,F1 b->F b)/\(∀ b,F2 b->F b)/\(∀ b,F1 b->¬ F2 b)/\Ow K O H u d w F1 /\
   ∀ (O':AS) (H':Hp) (u':D) (G:AS),Mv O O' F2 H H'->(∀ b,G b->¬ F2 b)->Ow K O' H' u' d w G->Ows K O' H' (ts.set k u') d vs (fun b=>F2 b\/G b)
 | [],_,_,k,u,_,h=>by simp at h
 | t :: ts,_,F,k,u,h,hk=>by
  obtain ⟨v,r,F1,F2,e,s1,s2,s3,h4,h5⟩:=h;subst e;cases k with
  | zero =>
   have:t=u:=by simpa using hk
   subst this;refine ⟨v,F1,F2,rfl,s1,s2,s3,h4,fun O' H' u' G m hd o=>?_⟩;exact ⟨v,r,G,F2,rfl,fun _ z=>.inr z,fun _ z=>.inl z,hd,o,Ows.mv m ts (fun _ z=>z) h5⟩
  | succ k =>
   obtain ⟨w,G1,G2,g1,g2,g3,g4,g5,g6⟩:=Ows.zoom (k:=k) h5 (by simpa using hk);refine ⟨w,G1,fun b=>F1 b\/G2 b,by simpa using g1,fun b z=>s2 b (g2 b z),fun b z=>z.elim (s1 b) fun z=>s2 b (g3 b z),fun b z z2=>?_,g5,fun O' H' u' G m hd o=>?_⟩
   ·rcases z2 with z2 | z2
    ·exact s3 b z2 (g2 b z)
    ·exact g4 b z z2
   ·refine ⟨v,r,F1,fun b=>G2 b\/G b,rfl,fun b z=>.inl (.inl z),fun b z=>z.imp .inr id,fun b z z2=>?_,Ow.mv ⟨m.k,m.o⟩ t (fun b z=>.inl z) h4,g6 O' H' u' G ⟨fun a o q z=>m.k a o q (z.imp id .inr),m.o⟩ (fun b z z2=>hd b z (.inr z2)) o⟩;rcases z2 with z2 | z2
    ·exact s3 b z (g3 b z2)
    ·exact hd b z2 (.inl z)
def Ow.zoom:∀ {π:List Nat} {t u:D} {d:Nat} {v:V} {F:AS},Ow K O H t d v F->bA t π=some u->dns π.length d≠0 ->
  ∃ w,∃ F1 Fr:AS,PathV H v π w/\(∀ b,F1 b->F b)/\(∀ b,Fr b->F b)/\(∀ b,F1 b->¬ Fr b)/\Ow K O H u (dns π.length d) w F1 /\
   ∀ (O':AS) (H':Hp) (u':D) (G:AS),Mv O O' Fr H H'->(∀ b,G b->¬ Fr b)->Ow K O' H' u' (dns π.length d) w G->Ow K O' H' (bg t π u') d v (fun b=>Fr b\/G b)
 | [],t,u,d,v,F,h,hp,hz=>by
  cases hp;refine ⟨v,F,NoA,rfl,fun _ z=>z,fun _ z=>z.elim,fun _ _ z=>z,h,fun O' H' u' G m hd o=>?_⟩;have e:(fun b=>NoA b\/G b)=G:=dq fun b=>⟨fun z=>z.elim (fun z=>z.elim) id,.inr⟩;rw [e];exact o
 | k :: π,t,u,d,v,F,h,hp,hz=>by
  have hz1:dns π.length (dn d)≠0:=hz;have hd0:d≠0:=tj (m:=π.length+1) hz;cases t with
  | list ts =>
   obtain ⟨c,p1,p2⟩:=zaa.mp hp;obtain ⟨a,vs,e,⟨h0,_⟩ | ⟨_,h1,h2,F',hf,h3⟩⟩:=h
   ·exact absurd h0 hd0
   obtain ⟨w,G1,G2,g1,g2,g3,g4,g5,g6⟩:=h3.zoom p1;obtain ⟨w2,F1,Fr,q1,q2,q3,q4,q5,q6⟩:=Ow.zoom g5 p2 hz1;refine ⟨w2,F1,fun b=>b=a\/G2 b\/Fr b,⟨a,vs,w,e,.inl h1,g1,q1⟩,fun b z=>(hf b (g2 b (q2 b z))).1,fun b z=>?_,fun b z z2=>?_,q5,fun O' H' u' G m hd o=>?_⟩
   ·rcases z with z | z | z
    ·rw [z]; exact h2
    ·exact (hf b (g3 b z)).1
    ·exact (hf b (g2 b (q3 b z))).1
   ·rcases z2 with z2 | z2 | z2
    ·exact (hf b (g2 b (q2 b z))).2 z2
    ·exact g4 b (q2 b z) z2
    ·exact q4 b z z2
   ·have o1:=q6 O' H' u' G ⟨fun x y q z=>m.k x y q (z.imp id fun z=>.inr (.inr z)),m.o⟩ (fun b z z2=>hd b z (.inr (.inr z2))) o;have o2:=g6 O' H' (bg c π u') (fun b=>Fr b\/G b) ⟨fun x y q z=>m.k x y q (z.imp id fun z=>.inr (.inl z)),m.o⟩ (fun b z z2=>?_) o1
    ·refine ⟨a,vs,e,.inr ⟨hd0,m.k _ _ h1 (.inr (.inl rfl)),.inl (.inl rfl),fun b=>G2 b\/Fr b\/G b,fun b z=>?_,?_⟩⟩
     ·rcases z with z | z | z
      ·exact ⟨.inl (.inr (.inl z)),(hf b (g3 b z)).2⟩
      ·exact ⟨.inl (.inr (.inr z)),(hf b (g2 b (q3 b z))).2⟩
      ·exact ⟨.inr z,fun ze=>hd b z (.inl ze)⟩
     ·rw [p1];exact o2
    ·rcases z with z | z
     ·exact g4 b (q3 b z) z2
     ·exact hd b z (.inr (.inl z2))
  | tuple ts =>
   obtain ⟨c,p1,p2⟩:=zaa.mp hp;obtain ⟨a,vs,e,⟨h0,_⟩ | ⟨_,h1,h2,F',hf,h3⟩⟩:=h
   ·exact absurd h0 hd0
   obtain ⟨w,G1,G2,g1,g2,g3,g4,g5,g6⟩:=h3.zoom p1;obtain ⟨w2,F1,Fr,q1,q2,q3,q4,q5,q6⟩:=Ow.zoom g5 p2 hz1;refine ⟨w2,F1,fun b=>b=a\/G2 b\/Fr b,⟨a,vs,w,e,.inr h1,g1,q1⟩,fun b z=>(hf b (g2 b (q2 b z))).1,fun b z=>?_,fun b z z2=>?_,q5,fun O' H' u' G m hd o=>?_⟩
   ·rcases z with z | z | z
    ·rw [z]; exact h2
    ·exact (hf b (g3 b z)).1
    ·exact (hf b (g2 b (q3 b z))).1
   ·rcases z2 with z2 | z2 | z2
    ·exact (hf b (g2 b (q2 b z))).2 z2
    ·exact g4 b (q2 b z) z2
    ·exact q4 b z z2
   ·have o1:=q6 O' H' u' G ⟨fun x y q z=>m.k x y q (z.imp id fun z=>.inr (.inr z)),m.o⟩ (fun b z z2=>hd b z (.inr (.inr z2))) o;have o2:=g6 O' H' (bg c π u') (fun b=>Fr b\/G b) ⟨fun x y q z=>m.k x y q (z.imp id fun z=>.inr (.inl z)),m.o⟩ (fun b z z2=>?_) o1
    ·refine ⟨a,vs,e,.inr ⟨hd0,m.k _ _ h1 (.inr (.inl rfl)),.inl (.inl rfl),fun b=>G2 b\/Fr b\/G b,fun b z=>?_,?_⟩⟩
     ·rcases z with z | z | z
      ·exact ⟨.inl (.inr (.inl z)),(hf b (g3 b z)).2⟩
      ·exact ⟨.inl (.inr (.inr z)),(hf b (g2 b (q3 b z))).2⟩
      ·exact ⟨.inr z,fun ze=>hd b z (.inl ze)⟩
     ·rw [p1];exact o2
    ·rcases z with z | z
     ·exact g4 b (q3 b z) z2
     ·exact hd b z (.inr (.inl z2))
  | _=>cases hp
end
abbrev MP:=En->Option (List Nat × En)
def tP (K:PySem.W.Frag) (p:Bool) (ds ds':List Nat) (i m:Nat) (mp:MP):TE:=fun σ H Q =>
 ∃ Ox en R π en',EnvOk K ds Ox H σ en R/\mp en=some (π,en')/\∀ v w H' R',Post K p ds' Ox σ H en R en' H' R' NoA->π.length=m->σ[i]?=some (some v)->PathV H' v π w->Q w H'
def cJ (i:Nat):MP:=fun en=>((en[i]?).join).map fun _=>([],en)
def pIx (i:Nat) (mp:MP) (f:ME):MP:=fun en=>(mp en).bind fun r=>(f r.2).bind fun q=>match q.1,(q.2[i]?).join with
 | .int n,some t=>(bA t r.1).bind fun u=>match u with
  | .list ts=>(ixN ts.length n).bind fun k=>if k < ts.length then some (r.1++[k],q.2) else none
  | .tuple ts=>(ixN ts.length n).bind fun k=>if k < ts.length then some (r.1++[k],q.2) else none
  | _=>none
 | _,_=>none
section
variable {X:Cx} {K:PySem.W.Frag} {p p1 p2:Bool} {J:Jd} {ds ds1 ds2:List Nat} {H:Hp} {σ:St} {d d1 d2 i m:Nat} {f fk fe:ME} {mp:MP} {e b o:Expr} {Q:VK}
def FV (h:tP K true ds ds i 0 (cJ i) σ H Q):eZ i σ H Q:=by
 obtain ⟨Ox,en,R,π,en',e,hf,k⟩:=h;unfold cJ at hf;obtain ⟨t,h1,h2⟩:=zab.mp hf;cases h2;obtain ⟨v,d,a1,_,_⟩:=e.at_ i t (aM h1);exact ⟨v,a1,k v v H R (Post.refl e) rfl a1 rfl⟩
def Ha (hpu:p2=true\/m=0) (hd:ds2[i]?=some d) (hz:dns m d≠0) (h:tP K (p1 && p2) ds ds2 i (m+1) (pIx i mp f) σ H Q):tOp (rIx K) (tP K p1 ds ds1 i m mp) (tF K p2 ds1 ds2 d1 f) σ H Q:=by
 obtain ⟨Ox,en,R,π,en',e,hf,k⟩:=h;unfold pIx at hf;obtain ⟨⟨π0,en1⟩,h1,hf⟩:=zaa.mp hf;obtain ⟨⟨t1,en2⟩,h2,hf⟩:=zaa.mp hf
 dsimp only at hf
 split at hf
 case h_2=>cases hf
 next n t h3 =>
 obtain ⟨u,h4,hf⟩:=zaa.mp hf;refine ⟨Ox,en,R,π0,en1,e,h1,fun v w H1 R1 P1 hl hv pv=>?_⟩;refine ⟨Ox,en1,R1,.int n,en2,P1.env0,h2,fun y H2 R2 F P2 o=>?_⟩;have ey:y=.int n:=o;subst ey;have P:=P1.after P2;obtain ⟨v',d',b1,b2,b3⟩:=P.env.at_ i t (aM h3);rw [hv] at b1;cases b1;rw [hd] at b2;cases b2;have pv2:PathV H2 v π0 w:=by
  rcases hpu with hp | hm
  ·exact pv.mono (P2.pure hp).2.2
  ·have e0:π0=[]:=za7.mp (hl.trans hm);subst e0;exact pv
 obtain ⟨w2,F1,Fr,q1,q2,q3,q4,q5,_⟩:=b3.zoom h4 (by rw [hl]; exact hz);have ew:=pv2.det q1;subst ew;rw [hl] at q5;cases u with
 | list ts =>
  obtain ⟨kk,h5,hf⟩:=zaa.mp hf;by_cases hk:kk < ts.length
  case neg=>rw [if_neg hk] at hf; cases hf
  rw [if_pos hk] at hf;cases hf;obtain ⟨a,vs,ea,ha,_,F',_,ow⟩:=q5.ownL hz;obtain ⟨x,g1,_⟩:=ow.get (zak hk);refine .inl ⟨a,vs,n,x,ea,rfl,SqL.of ha,by unfold atI; rw [ow.len,h5]; exact g1,?_⟩;subst ea;exact k v x H2 R2 (P.less fun _ z=>z.elim) (by rw [zae,hl]; rfl) hv (PathV.snoc (.inl ha) g1 q1)
 | tuple ts =>
  obtain ⟨kk,h5,hf⟩:=zaa.mp hf;by_cases hk:kk < ts.length
  case neg=>rw [if_neg hk] at hf; cases hf
  rw [if_pos hk] at hf;cases hf;obtain ⟨a,vs,ea,⟨h0,_⟩ | ⟨_,ha,_,F',_,ow⟩⟩:=q5
  ·exact absurd h0 hz
  obtain ⟨x,g1,_⟩:=ow.get (zak hk);refine .inr (.inl ⟨a,vs,n,x,ea,rfl,SqT.of ha,by unfold atI; rw [ow.len,h5]; exact g1,?_⟩);subst ea;exact k v x H2 R2 (P.less fun _ z=>z.elim) (by rw [zae,hl]; rfl) hv (PathV.snoc (.inr ha) g1 q1)
 | _=>cases hf
def BK {x:Str} {px:Pos} (hN:X.N[i]?=some x) (hv:Vis X.env.scope x) (hd:(x == ("__debug__" : Str))=false) (hcd:(x == ("__classdict__" : Str))=false):PE X (.Name x px) (tP K true ds ds i 0 (cJ i)) :=
 (bQ hN hv hd hcd).imp fun _ _ _=>FV
def Fu {pos:Pos} (hK:X.K=K) (hd:ds2[i]?=some d) (ho:PE X o (tP K p1 ds ds1 i m mp)) (hb:PE X b (tF K p2 ds1 ds2 d1 f)) (hz:dns m d≠0) (hpu:p2=true\/m=0) (hs:dw b):PE X (.Subscript o b pos) (tP K (p1 && p2) ds ds2 i (m+1) (pIx i mp f)):=by
 subst hK;exact (mU ix_seq ho hb hs).imp fun _ _ _=>Ha hpu hd hz
def Post.place {Ox:AS} {en en1:En} {R R1:Nat->AS} {H1:Hp} {F:AS} {t:D} {π:List Nat} {ts:List D} {v w:V} (P:Post K p ds1 Ox σ H en R en1 H1 R1 F) (hi:en1[i]?=some (some t)) (hv:σ[i]?=some (some v)) (hd:ds1[i]?=some d) (hg:bA t π=some (.list ts)) (hz:dns π.length d≠0) (pv:PathV H1 v π w) :
  ∃ l vs,∃ F1:AS,w=.ref l/\H1 l=some (.lst vs)/\R1 i l/\(∀ b,F1 b->R1 i b/\b≠l)/\Ows K (Own R1 (U F Ox)) H1 ts (dn (dns π.length d)) vs F1 /\
   ∀ (ts':List D) (vs':List V) (G:AS),(∀ b,G b->F1 b\/F b)->(∀ O',(∀ a,O' a->Own R1 (U F Ox) a)->Ows K O' (upd H1 l (.lst vs')) ts' (dn (dns π.length d)) vs' G) ->
    ∃ R',Post K false ds1 Ox σ H en R (en1.set i (some (bg t π (.list ts')))) (upd H1 l (.lst vs')) R' NoA:=by
 obtain ⟨v',d',b1,b2,b3⟩:=P.env.at_ i t hi;rw [hv] at b1;cases b1;rw [hd] at b2;cases b2;obtain ⟨w2,F1,Fr,q1,q2,q3,q4,q5,q6⟩:=b3.zoom hg hz;have ew:=pv.det q1;subst ew;obtain ⟨l,vs,el,hl,hr,F',hf',ow⟩:=q5.ownL hz;refine ⟨l,vs,F',el,hl,q2 l hr,fun b z=>⟨q2 b (hf' b z).1,(hf' b z).2⟩,ow,fun ts' vs' G hG hO=>?_⟩;have hlen:i < en1.length:=(zah.mp hi).1;have gl:∀ b,F b->b≠l:=fun b z ze=>by
  subst ze;exact P.env.dx i b (q2 b hr) (.inl z)
 have gG:∀ a,(fun b=>Fr b\/(b=l\/G b)) a->R1 i a\/F a:=fun a z=>by
  rcases z with z | z | z
  ·exact .inl (q3 a z)
  ·rw [z]; exact .inl (q2 l hr)
  ·rcases hG a z with z | z
   ·exact .inl (q2 a (hf' a z).1)
   ·exact .inr z
 have sub:=lf (i:=i) (R1:=R1) (Ox:=Ox) (G:=fun b=>Fr b\/(b=l\/G b)) (F':=NoA) (F:=F) gG (fun _ z=>z.elim);have Ol:Own R1 (U F Ox) l:=.inl ⟨i,q2 l hr⟩;refine ⟨_,P.slot (G:=fun b=>Fr b\/(b=l\/G b)) (q2 l hr) hlen hv hd gG (fun _ z=>z.elim) (fun _ _ z=>z) ?_⟩;refine q6 _ _ (.list ts') (fun b=>b=l\/G b) ⟨fun a o q z=>?_,fun a z=>.inl (sub a z)⟩ (fun b z z2=>?_) ?_
 ·rw [ay]
  ·exact q
  ·intro za;subst za;rcases z with z | z
   ·exact z Ol
   ·exact q4 a hr z
 ·rcases z with z | z
  ·rw [z] at z2; exact q4 l hr z2
  ·rcases hG b z with z | z
   ·exact q4 b (hf' b z).1 z2
   ·exact P.env.dx i b (q3 b z2) (.inl z)
 ·refine ⟨l,vs',el,.inr ⟨hz,aw,.inl rfl,G,fun b z=>⟨.inr z,?_⟩,hO _ sub⟩⟩;rcases hG b z with z | z
  ·exact (hf' b z).2
  ·exact gl b z
def b8 (i:Nat) (mp:MP) (f:ME):ME:=fun en=>(mp en).bind fun r=>match (r.2[i]?).join with
 | some t=>(bA t r.1).bind fun u=>match u with
  | .list ts=>(f r.2).bind fun q=>if ts.length < sizeLine then some (.none,q.2.set i (some (bg t r.1 (.list (ts++[q.1]))))) else none
  | _=>none
 | none=>none
def uj {K:PySem.W.Frag} {H:Hp} {l:Addr} {vs:List V} (h:H l=some (.lst vs)):tyV K "list" (.ref l) H:=.inl ⟨rfl,vs,SqL.of h⟩
def F7 {c:Nat} (hd1:ds1[i]?=some d) (hd:ds2[i]?=some d) (hz:dns m d≠0) (hc:dn (dns m d)=c) (h:tF K false ds ds2 3 (b8 i mp f) σ H Q):tBM K "list" lD (tP K p1 ds ds1 i m mp) (gF (tF K true ds1 ds2 c f) m6) σ H Q:=by
 obtain ⟨Ox,en,R,t0,en',e,hf,k⟩:=h;unfold b8 at hf;obtain ⟨⟨π,en1⟩,h1,hf⟩:=zaa.mp hf
 dsimp only at hf
 split at hf
 case h_2=>cases hf
 next t h3 =>
 obtain ⟨u,h4,hf⟩:=zaa.mp hf;cases u with
 | list ts =>
  dsimp only at hf
  obtain ⟨⟨t1,en2⟩,h2,hf⟩:=zaa.mp hf;by_cases hlen:ts.length < sizeLine
  case neg=>rw [if_neg hlen] at hf; cases hf
  rw [if_pos hlen] at hf;cases hf;refine ⟨Ox,en,R,π,en1,e,h1,fun v w H1 R1 P1 hl hv pv=>?_⟩;subst hl;obtain ⟨l,vs,F1,el,hl1,_⟩:=P1.place (aM h3) hv hd1 h4 hz pv;subst el;refine ⟨uj hl1,Ox,en1,R1,t1,en2,P1.env0,h2,fun x H2 R2 F P2 o=>?_⟩;obtain ⟨pe,pR,ph⟩:=P2.pure rfl;have P:=P1.after P2;have h3':en2[i]?=some (some t):=by rw [pe]; exact aM h3
  obtain ⟨l',vs',F1,el,hl2,hr,hf1,ow,fin⟩:=P.place h3' hv hd h4 hz (pv.mono ph);cases el;refine ⟨l,vs',x,rfl,rfl,hl2,by rw [ow.len]; exact hlen,?_⟩;have Fn:∀ a,F a->a≠l:=fun a z z2=>by
   subst z2;exact P.env.dx i a hr (.inl z)
  have Ol:Own R2 (U F Ox) l:=.inl ⟨i,hr⟩;obtain ⟨R',PF⟩:=fin (ts++[t1]) (vs'++[x]) (U F1 F) (fun _ z=>z) fun O' ho=>by
   refine Ows.snoc (Ows.past ho Ol (fun b z=>(hf1 b z).2) ow) ?_ fun b z1 z2=>P.env.dx i b (hf1 b z1).1 (.inl z2);rw [hc];exact Ow.past ho Ol Fn o
  exact k .non _ R' NoA PF rfl
 | _=>cases hf
def B8 {apos cpos:Pos} {c:Nat} (hK:X.K=K) (hd1:ds1[i]?=some d) (hd:ds2[i]?=some d) (ho:PE X o (tP K p1 ds ds1 i m mp)) (he:PE X e (tF K true ds1 ds2 c f)) (hz:dns m d≠0) (hc:dn (dns m d)=c)
  (hbase:attributeBase o "append" X.env (eval o X.env)=eval o X.env)
  (hfew:((backTo cpos (starEach [e] X.env)).all (fun x=>!x.1) && (backToKw cpos (keywordEach [] X.env)).all (fun x=>x.1.isSome) && decide (([e]:List Expr).length+([]:List Keyword).length+(if ([]:List Keyword).isEmpty then 0 else 1) < 30))=true)
  (hline:(apos.endLine == cpos.line)=true) (hs:starEach [e] X.env=[(false,eval e X.env)]) (hplain:(backTo cpos (starEach [] X.env)).any (·.1)=false) :
  PE X (.Call (.Attribute o "append" apos) [e] [] cpos) (tF K false ds ds2 3 (b8 i mp f)):=by
 subst hK;exact (Aq PySem.F.plainAttrs_list PySem.F.slot_list_append PySem.F.type_list_append jm ho (bM he pa_nil hs) hbase hfew hline hs hplain).imp fun _ _ _=>F7 hd1 hd hz hc
def iz (i:Nat) (mp:MP) (fk fe:ME):MS:=fun en=>(fe en).bind fun r=>(mp r.2).bind fun w=>(fk w.2).bind fun q=>match q.1,(q.2[i]?).join with
 | .int n,some t=>(bA t w.1).bind fun u=>match u with
  | .list ts=>(ixN ts.length n).map fun k=>.nx (q.2.set i (some (bg t w.1 (.list (ts.set k r.1)))))
  | _=>none
 | _,_=>none
end
def Bm {P:Program} {w:World} {K:PySem.W.Frag} {mg:Str->Option Value} {base:Heap} {k dr:Nat} {x:Str} {ps:List Str} {dps:List Nat} {f:Addr} {fd:FuncData} (m:mg x=some (.ref f)) (hk:PySem.W.keepIn K (.ref f)=true) (b:Binds K fd ps []):Kn P w K mg base k x ps (spF K dps dr fun _=>none) :=
 ⟨f,fd,⟨fun vs H Q E ⟨_,_,_,_,_,_,z,_⟩=>(nomatch z),fun A outer s H args us vs Q E _ _ _ _ ⟨_,_,_,_,_,_,z,_⟩=>(nomatch z)⟩,m,hk,b⟩
def qD (f:Nat->Str):Nat->List Str
 | 0=>[]
 | i+1=>if (qD f i).any (· == f i)=true then qD f i else qD f i++[f i]
section
variable {P:Program} {w:World} {A:Around} {R:Result->Shared->Prop} {I:Addr} {fp wr:List Addr} {G:Array GenState->Array GenState->Prop} {n:Nat} {Pi:Nat->Value->Prop} {St:Nat->Shared->Prop}
end
section
variable {P:Program} {w:World} {A:Around} {E:Value->Shared->Prop} {s:Shared}
def Gx (z:Str) (i:Nat):Str:=match z.cps[i]? with
 | some c=>mk1 c
 | none=>""
end
section
variable {X:Cx} {K:PySem.W.Frag} {p p1 p2:Bool} {ds ds1 ds2:List Nat} {d d1 d2:Nat} {e k:Expr} {f f1 f2:ME} {fa:MA} {sh:Sh} {σ:St} {H:Hp} {Q Q':VK} {pos pos2 px py:Pos}
def rH (h:∀ v H,Q v H->Q' v H):tF K p ds ds1 d f σ H Q->tF K p ds ds1 d f σ H Q'
 | ⟨Ox,en,R,t,en',e,hf,k⟩=>⟨Ox,en,R,t,en',e,hf,fun v H' R' F P o=>h _ _ (k v H' R' F P o)⟩
def HX:D->Option D
 | .str z=>grd (z.length < 4000) (.int (qD (Gx z) z.length).length)
 | _=>none
def Iy:D->D->Option D
 | .list ts,.int (-1)=>some (.list ts.reverse)
 | _,_=>none
def Ih:D->D->Option D
 | .tuple ts,.int (-1)=>some (.tuple ts.reverse)
 | _,_=>none
def Ii:D->D->Option D
 | .str z,.int (-1)=>grd (z.length<=sizeLine) (.str ⟨z.cps.toList.reverse.toArray⟩)
 | _,_=>none
def HY (fa:MA):MI:=fun en=>(fa en).bind fun r=>match r.1 with
 | [.inl (.str x),.inl (.str y)]=>some (cH (jQ x) (jQ y),r.2)
 | _=>none
def isB:D->D->Option D
 | .bool a,.bool b=>some (.bool (a == b))
 | _,_=>none
end
section
variable {X:Cx} {K:PySem.W.Frag} {pins:List (Addr × Obj)} {σ:St} {H:Hp} {s:Shared} {O:AS}
def Inv.noSeq (I:Inv X pins σ H s) {a:Addr} {o:Obj} {xs:Array Value} {n:Nat} (h:s.heap.get? a=some o) (d:o.data=.seq xs n):sysModules≠a:=by
 intro e;obtain ⟨mm,hm⟩:=I.mod.mods;obtain ⟨ob,es,ep,g1,g2,_⟩:=hm.keeps I.bk;rw [e,h] at g1;cases g1;rw [d] at g2;cases g2
def iB {h:Heap}:∀ (kk:List Key) {its:List Value},Vals (kk.map kV) its->ReadsAll h its (kk.map kD) []
 | [],_,r=>by cases r; exact .nil
 | .inl i :: kk,_,r=>by
  cases r with
  | cons ru rr =>
   obtain ⟨t,rfl⟩:=ru;exact .cons (as:=[]) (bs:=[]) (.int i t) (iB kk rr)
 | .inr x :: kk,_,r=>by
  cases r with
  | cons ru rr =>
   obtain ⟨t,rfl⟩:=ru;exact .cons (as:=[]) (bs:=[]) (.str x t) (iB kk rr)
mutual
def noX:D->Bool
 | .list ts=>lK ts
 | .tuple ts=>lK ts
 | .dict ks=>!isX (.dict ks) && jj ks
 | _=>true
def lK:List D->Bool
 | []=>true
 | t :: ts=>noX t && lK ts
def jj:List (D × D)->Bool
 | []=>true
 | (_,t) :: ts=>noX t && jj ts
end
def GL {ks:List (D × D)} (h:noX (.dict ks)=true):jj ks=true:=by
 have:(!isX (.dict ks))=true/\jj ks=true:=by simpa [noX] using h
 exact this.2
mutual
theorem Ow.reads2 (I:Inv X pins σ H s):∀ (t:D) {v:V} {u:Value},noX t=true->Ow X.K O H t 0 v NoA->RelV v u->∃ as,Reads s.heap u t as/\sysModules ∉ as
 | .none,_,_,hX,h,r=>by
  cases (show _=V.non from h);cases r;exact ⟨_,.none,by simp⟩
 | .bool b,_,_,hX,h,r=>by
  cases (show _=V.bl b from h);cases r;exact ⟨_,.bool _,by simp⟩
 | .int i,_,_,hX,h,r=>by
  cases (show _=V.int i from h);obtain ⟨t,rfl⟩:=r;exact ⟨_,.int _ _,by simp⟩
 | .str x,_,_,hX,h,r=>by
  cases (show _=V.str x from h);obtain ⟨t,rfl⟩:=r;exact ⟨_,.str _ _,by simp⟩
 | .list ts,_,_,hX,h,r=>by
  obtain ⟨p,vs,rfl,fz,w⟩:=h.lst0;cases r;obtain ⟨its,rv,pl,_⟩:=I.list fz.sq;obtain ⟨as,ra,rb⟩:=Ows.reads2 I ts (by simpa [noX] using hX) w rv;obtain ⟨o,n,e,e2,_,e3⟩:=pl;refine ⟨_,.list e e2 e3 (by simpa using ra),fun hm=>?_⟩;rcases zay.mp hm with z | z
  ·exact I.noSeq e e3 z
  ·exact rb z
 | .tuple ts,_,_,hX,h,r=>by
  obtain ⟨p,vs,rfl,fz,w⟩:=h.tup0;cases r;obtain ⟨its,rv,⟨o,e1,e2,n,e3⟩,_⟩:=I.tuple fz.sq;obtain ⟨as,ra,rb⟩:=Ows.reads2 I ts (by simpa [noX] using hX) w rv;exact ⟨_,.tuple e1 e2 e3 (by simpa using ra),rb⟩
 | .dict ks,_,_,hX,h,r=>by
  obtain ⟨a,vs,rfl,⟨_,ha,_,g2⟩ | ⟨z,_⟩ | ⟨_,⟨kk,b,hk,ha,_⟩ | ⟨cn,C,hk,_⟩⟩⟩:=h
  ·cases r;obtain ⟨_,hsys,us,kv,dd⟩:=iP I.hok ha;obtain ⟨o,es,n,g1,gc,g3,_,g5,_⟩:=dd;obtain ⟨bs,r1,r2,r3⟩:=Owd.reads2 I ks (GL hX) g2 kv g5;refine ⟨_,.dict g1 gc.1 g3 r1 r2,fun hm=>?_⟩;have hm':sysModules=a\/sysModules∈bs:=by simpa using hm
   rcases hm' with e | e
   ·rw [<- e] at hsys;simp at hsys
   ·exact r3 e
  ·exact absurd rfl z
  ·cases r;subst hk;obtain ⟨_,hsys,xs,rel,o,es,ep,g1,gc,g3,g4,_⟩:=qT I.hok ha;cases rel with
   | @cons _ q _ _ rq rr =>
    cases rr;obtain ⟨q1,q2,q3⟩:=q;obtain ⟨e1,e2,e3⟩:=rq;have e3':q3=.bool b:=e3;subst e3';obtain ⟨its,rv,⟨ot,t1,t2,n,t3⟩,_⟩:=I.tuple (SqT.of e2);have rk:=iB (h:=s.heap) kk rv;refine ⟨_,.dict g1 gc.1 g3 (as:=[]) (bs:=[]) ?_ ?_,fun hm=>?_⟩
    ·rw [g4];exact .cons (as:=[]) (bs:=[]) (.tuple t1 t2 t3 (by simpa using rk)) .nil
    ·rw [g4];exact .cons (as:=[]) (bs:=[]) (.bool b) .nil
    ·have hm':sysModules=a:=by simpa using hm
     rw [<- hm'] at hsys;simp at hsys
  ·subst hk
   have:(!isX (.dict [(.none,.str cn)]))=true/\jj [(.none,.str cn)]=true:=by simpa [noX] using hX
   cases this.1
theorem Ows.reads2 (I:Inv X pins σ H s):∀ (ts:List D) {vs:List V} {us:List Value},lK ts=true->Ows X.K O H ts 0 vs NoA->Vals vs us->∃ as,ReadsAll s.heap us ts as/\sysModules ∉ as
 | [],_,_,hX,h,r=>by
  cases (show _=[] from h);cases r;exact ⟨_,.nil,by simp⟩
 | t :: ts,_,_,hX,h,r=>by
  have hX':noX t=true/\lK ts=true:=by simpa [lK] using hX
  obtain ⟨v,q,F1,F2,e,_,_,_,h4,h5⟩:=h;subst e;cases r with
  | cons ru rr =>
   obtain ⟨as,a1,b1⟩:=Ow.reads2 I t hX'.1 (Ow.any0 t h4) ru;obtain ⟨bs,a2,b2⟩:=Ows.reads2 I ts hX'.2 (Ows.any0 ts h5) rr;exact ⟨_,.cons a1 a2,fun z=>(zax.mp z).elim b1 b2⟩
theorem Owd.reads2 (I:Inv X pins σ H s):∀ (ks:List (D × D)) {vs:List (Key × V)} {us:List (Key × Value)} {es:List DictEntry},jj ks=true->Owd X.K O H ks 0 vs NoA->KV vs us->Pairs (aZ X.prog X.w) es us ->
  ∃ bs,ReadsAll s.heap (es.map fun x=>x.key) (ks.map fun x=>x.1) []/\ReadsAll s.heap (es.map fun x=>x.val) (ks.map fun x=>x.2) bs/\sysModules ∉ bs
 | [],_,_,_,hX,h,r,p=>by
  cases (show _=[] from h);cases r;cases p;exact ⟨_,.nil,.nil,by simp⟩
 | (k,t) :: ks,_,_,_,hX,h,r,p=>by
  have hX':noX t=true/\jj ks=true:=by simpa [jj] using hX
  obtain ⟨q,v,r',F1,F2,e,rfl,_,_,_,h4,h5⟩:=h;subst e;cases r with
  | cons ru rr =>
   cases p with
   | @cons e0 _ _ _ p1 p2 p3 =>
    obtain ⟨as,a1,b1⟩:=Ow.reads2 I t hX'.1 (Ow.any0 t h4) ru.2;obtain ⟨bs,a2,a3,b2⟩:=Owd.reads2 I ks hX'.2 (Owd.any0 ks h5) rr p3;have hk:Reads s.heap e0.key (kD q) []:=by
     have p1':iJ _ e0.key=true:=p1;rw [<- ru.1] at p1';rcases bi p1' with ⟨i,t,e1,e2⟩ | ⟨x,t,e1,e2⟩
     ·have e1':q=Sum.inl i:=e1;rw [e1',e2];exact .int _ _
     ·have e1':q=Sum.inr x:=e1;rw [e1',e2];exact .str _ _
    exact ⟨as++bs,.cons hk a2,.cons (show Reads s.heap e0.val t as from p2 ▸ a1) a3,fun z=>(zax.mp z).elim b1 b2⟩
end
def kz:List D->Option D
 | [t]=>grd (noX t=true/\t.showable=true/\t.depth<=60/\t.shown.length<=sizeLine) (.str t.shown)
 | _=>none
def nZ (hK:X.K=K) (hg:X.A.guards=some []) (hu:X.A.units+64 < cLine):CallR X (.builtin "repr") (rFn K kz 3):=by
 intro pins s σ H xs us Q I r ⟨O,as,t,oa,hd,hr,k⟩;by_cases hold:qt as=some t
 ·exact BN hK hg hu pins s σ H xs us Q I r ⟨O,as,t,oa,hd,hold,k⟩
 subst hK;unfold kz at hr;split at hr
 ·next d =>
  obtain ⟨⟨cX,c2,c3,c4⟩,rfl⟩:=cj hr;obtain ⟨v,rfl,o⟩:=oa.one;obtain ⟨u,rfl,ru⟩:=cF r;obtain ⟨as,rd,hs⟩:=Ow.reads2 I d cX o ru;have q:=k (.str d.shown) H NoA .refl rfl;obtain ⟨a,rfl⟩:∃ a,u=.ref a:=by
   cases d with
   | tuple ts =>
    obtain ⟨p,vs,rfl,_,_⟩:=o.tup0;exact ⟨p,ru⟩
   | list ts =>
    obtain ⟨p,vs,rfl,_,_⟩:=o.lst0;exact ⟨p,ru⟩
   | dict ks =>
    obtain ⟨a,vs,rfl,_⟩:=o;exact ⟨a,ru⟩
   | _ =>
    refine absurd ?_ hold;show grd _ _=_;exact if_pos ⟨rfl,c2,c3,c4⟩
  exact repr_of_reads' rd c2 (fun _=>hs) hg (by omega) (fun _ _ e=>e) (fun h' u tk hk=>⟨.str _,H,I.kept (t':=tk) hk,⟨_,rfl⟩,q⟩) c4
 ·cases hr
end
section
variable {X:Cx} {K:PySem.W.Frag} {p p1 p2:Bool} {ds ds1 ds2:List Nat} {d d1 d2:Nat} {a b:Expr} {f f1 f2:ME} {σ:St} {H:Hp} {Q Q':VK} {pos:Pos} {ta tb:TE} {rest:List Expr}
def IE:D->Option Int->Option Int->Option D
 | .tuple ts,lo,hi=>grd (¬ (HT.sIx ts.length 0 lo=0/\HT.sIx ts.length ts.length hi=ts.length)) (.tuple (fP ts lo hi))
 | _,_,_=>none
def Ho:D->Option Bool
 | .none=>some false
 | .bool b=>some b
 | .list ts=>some (!ts.isEmpty)
 | .tuple ts=>some (!ts.isEmpty)
 | _=>none
def ID (f g:ME):ME:=fun en=>(f en).bind fun r=>(Ho r.1).bind fun c=>if c then some r else g r.2
end
section
variable {X:Cx} {K:PySem.W.Frag} {p p1 p2:Bool} {ds ds1 ds2:List Nat} {d d1 d2:Nat} {a b:Expr} {f f1 f2:ME} {σ:St} {H:Hp} {Q Q':VK} {pos:Pos}
def kg (x:Int):List Int->List Int
 | []=>[x]
 | y :: r=>if x<=y then x :: y :: r else y :: kg x r
def eF:List Int->List Int
 | []=>[]
 | x :: r=>kg x (eF r)
def jo (x:Int):∀ l,(kg x l).Perm (x :: l)
 | []=>.refl _
 | y :: r=>by
  unfold kg;split
  ·exact .refl _
  ·exact (List.Perm.cons y (jo x r)).trans (List.Perm.swap x y r)
def bP:∀ l,(eF l).Perm l
 | []=>.refl _
 | x :: r=>(jo x _).trans (List.Perm.cons x (bP r))
def j1 (x:Int):∀ l:List Int,l.Pairwise (·<=·)->(kg x l).Pairwise (·<=·)
 | [],_=>by simp [kg]
 | y :: r,h=>by
  obtain ⟨h1,h2⟩:=List.pairwise_cons.mp h;unfold kg;split
  ·next hx =>
   refine List.pairwise_cons.mpr ⟨fun z hz=>?_,h⟩;rcases zay.mp hz with rfl | hz
   ·exact hx
   ·exact Int.le_trans hx (h1 z hz)
  ·next hx =>
   refine List.pairwise_cons.mpr ⟨fun z hz=>?_,j1 x r h2⟩;rcases zay.mp ((jo x r).mem_iff.mp hz) with rfl | hz
   ·omega
   ·exact h1 z hz
def b9:∀ l,(eF l).Pairwise (·<=·)
 | []=>.nil
 | x :: r=>j1 x _ (b9 r)
def iy:∀ {l m:List Int},l.Perm m->l.Pairwise (·<=·)->m.Pairwise (·<=·)->l=m
 | [],m,h,_,_=>(List.nil_perm.mp h).symm
 | x :: l,m,h,hl,hm=>by
  cases m with
  | nil=>exact absurd h.length_eq (by simp)
  | cons y m =>
   obtain ⟨l1,l2⟩:=List.pairwise_cons.mp hl;obtain ⟨m1,m2⟩:=List.pairwise_cons.mp hm;have e:x=y:=by
    have a1:x∈y :: m:=h.mem_iff.mp zaq;have a2:y∈x :: l:=h.mem_iff.mpr zaq;rcases zay.mp a1 with e | a1
    ·exact e
    ·rcases zay.mp a2 with e | a2
     ·exact e.symm
     ·exact Int.le_antisymm (l1 y a2) (m1 x a1)
   subst e;rw [iy (List.perm_cons x |>.mp h) l2 m2]
def m4 {us:List Value} {ns:List Int} (h:IntsAre us ns):Vals (ns.map V.int) us:=by
 induction us generalizing ns with
 | nil=>cases ns with
  | nil=>exact .nil
  | cons n r=>exact absurd h.length (by simp)
 | cons u us ih =>
  cases ns with
  | nil=>exact absurd h.length (by simp)
  | cons n r =>
   obtain ⟨t,ht⟩:=IntsAre.int_at h 0 u rfl;refine .cons ⟨t,ht⟩ (ih ?_);cases h
   assumption
def FK (hK:X.K=K) (ha:PE X a (tF K p ds ds1 d f1)) (hb:PE X b (tF K p ds1 ds2 d2 f2)) (hs:dw b) (hz:d≠0):PE X (.Subscript a b pos) (tF K p ds ds2 (dn d) (e2 ixA f1 f2)):=by
 subst hK;refine (mU ix_seq ha hb hs).imp fun σ H Q h=>?_;obtain ⟨Ox,en,R,t,en',e,hf,k⟩:=h;unfold e2 at hf;obtain ⟨⟨t1,en1⟩,h1,hf⟩:=zaa.mp hf;obtain ⟨⟨t2,en2⟩,h2,hf⟩:=zaa.mp hf;obtain ⟨t',h3,hf⟩:=zab.mp hf;cases hf;have go:tFA X.K (p && (p && true)) ds ds2 [.inl d,.inl d2] (ad f1 (ad f2 ah)) σ H (fun vs H2=>∃ x y,vs=[x,y]/\((∃ (a:Addr) (us:List V) (n:Int) (v:V),x=.ref a/\y=.int n/\(SqL X.K H2 a us\/SqT X.K H2 a us)/\atI us n=some v/\Q v H2)\/(∃ (z:Str) (n:Int) (c:Nat),x=.str z/\y=.int n/\z.length<=sizeLine/\atI z.cps.toList n=some c/\Q (.str (mk1 c)) H2))):=by
  refine ⟨Ox,en,R,[.inl t1,.inl t2],en2,e,?_,fun vs H1 R1 F P o=>?_⟩
  ·unfold ad ah;rw [h1];show Option.map _ ((f2 en1).bind _)=_;rw [h2];rfl
  ·obtain ⟨x,r,d',dr,F1,F2,e1,e2',s1,s2,_,o1,y,r2,d2',dr2,G1,G2,e3,e4,s3,_,_,o2,o3⟩:=o;obtain ⟨_,o3⟩:=o3;cases e2';subst e1 e3 o3;cases e4;refine ⟨x,y,rfl,?_⟩;have P':Post X.K p ds2 Ox σ H en R en2 H1 R1 F:=by
    rw [Bool.and_true,Bool.and_self] at P;exact P
   cases t2 with
   | int n =>
    cases (show y=V.int n from o2);cases t1 with
    | list ts =>
     obtain ⟨a,vs,rfl,⟨z,_⟩ | ⟨_,g1,g2,G,hg,g3⟩⟩:=o1
     ·exact absurd z hz
     ·have h3':atI ts n=some t:=h3;unfold atI at h3';obtain ⟨j,hj,hj2⟩:=zaa.mp h3';obtain ⟨v,hv,ov⟩:=g3.get hj2;refine .inl ⟨a,vs,n,v,rfl,rfl,.inl (.inl (.inl g1)),?_,?_⟩
      ·unfold atI;rw [g3.len,hj];exact hv
      ·have sub:∀ b,G b->F b:=fun b hb=>s1 b (hg b hb).1;exact k v H1 R1 G (P'.less sub) (Ow.grow (fun b hb=>hb.imp id fun hb=>hb.imp (sub b) id) _ (fun _ z=>z) ov)
    | tuple ts =>
     obtain ⟨a,vs,rfl,⟨z,_⟩ | ⟨_,g1,g2,G,hg,g3⟩⟩:=o1
     ·exact absurd z hz
     ·have h3':atI ts n=some t:=h3;unfold atI at h3';obtain ⟨j,hj,hj2⟩:=zaa.mp h3';obtain ⟨v,hv,ov⟩:=g3.get hj2;refine .inl ⟨a,vs,n,v,rfl,rfl,.inr (.inl (.inl g1)),?_,?_⟩
      ·unfold atI;rw [g3.len,hj];exact hv
      ·have sub:∀ b,G b->F b:=fun b hb=>s1 b (hg b hb).1;exact k v H1 R1 G (P'.less sub) (Ow.grow (fun b hb=>hb.imp id fun hb=>hb.imp (sub b) id) _ (fun _ z=>z) ov)
    | str z =>
     dsimp only [ixA] at h3
     by_cases hl:z.length<=sizeLine
     ·rw [if_pos hl] at h3;obtain ⟨c,h5,h6⟩:=zab.mp h3;cases h6;exact .inr ⟨z,n,c,o1,rfl,hl,h5,k _ H1 R1 NoA (P'.less fun _ z=>z.elim) rfl⟩
     ·rw [if_neg hl] at h3; cases h3
    | _=>cases h3
   | _=>cases t1 <;> cases h3
 have go2:=lY (ds1:=ds1) (p1:=p) (p2:=p && true) go;refine rH (fun x H1 q1=>?_) go2;have q2:=lY (ds1:=ds2) (p1:=p) (p2:=true) q1;refine rH (fun y H2 q3=>?_) q2;obtain ⟨x',y',ee,q⟩:=sX q3;cases ee;rcases q with ⟨a,us,n,v,rfl,rfl,hs | hs,hv,q⟩ | ⟨z,n,c,rfl,rfl,hl,hv,q⟩
 ·exact .inl ⟨a,us,n,v,rfl,rfl,hs,hv,q⟩
 ·exact .inr (.inl ⟨a,us,n,v,rfl,rfl,hs,hv,q⟩)
 ·exact .inr (.inr ⟨z,n,c,rfl,rfl,hl,hv,q⟩)
end
end L2
namespace L2
open PySem PySem.Spec PyProof.Rows PySem.SeqAt PySem.MeetsSeq
section
variable {A:Around} {s:Shared}
end
section
variable {X:Cx} {pins:List (Addr × Obj)} {σ:St} {H:Hp} {s:Shared} {O:AS}
end
section
variable {X:Cx} {K:PySem.W.Frag}
end
def IA:D->D->Option D
 | .tuple ts,.int k=>grd (1<=k/\k<=1000/\ts.length<=1000) (.tuple (List.replicate k.toNat ts).flatten)
 | _,_=>none
section
variable {X:Cx} {K:PySem.W.Frag}
def Il:D->D->Option D
 | .int k,.str z=>grd (z.length<=4000/\1<=k/\k<=4000) (.str (Txt.mul z k))
 | _,_=>none
end
def fc:List Int->Int
 | []=>0
 | [a]=>a
 | a :: b :: r=>max a (fc (b :: r))
def nE:∀ {l:List Int},l≠[]->fc l∈l
 | [a],_=>zaq
 | a :: b :: r,_=>by
  have ih:=nE (l:=b :: r) (by simp);unfold fc;rcases Int.le_total a (fc (b :: r)) with h | h
  ·rw [Int.max_eq_right h]; exact zaj _ ih
  ·rw [Int.max_eq_left h]; exact zaq
def pD:∀ {l:List Int} {x:Int},x∈l->x<=fc l
 | [a],x,h=>by simp at h; subst h; exact Int.le_refl _
 | a :: b :: r,x,h=>by
  unfold fc;rcases zay.mp h with rfl | h
  ·exact Int.le_max_left _ _
  ·exact Int.le_trans (pD h) (Int.le_max_right _ _)
def k9 (val:Nat->Int):∀ k,argBest (fun i j=>decide (val i > val j)) k<=k/\∀ i,i<=k->val i<=val (argBest (fun i j=>decide (val i > val j)) k)
 | 0=>by
  rw [argBest.eq_1];exact ⟨zav _,fun i hi=>by rw [Nat.le_zero.mp hi]; exact Int.le_refl _⟩
 | k+1=>by
  obtain ⟨h1,h2⟩:=k9 val k;rw [argBest.eq_2];by_cases h:val (k+1) > val (argBest (fun i j=>decide (val i > val j)) k)
  ·rw [if_pos (zaB h)];refine ⟨zav _,fun i hi=>?_⟩;rcases Nat.lt_or_ge i (k+1) with z | z
   ·exact Int.le_trans (h2 i (by omega)) (Int.le_of_lt h)
   ·rw [show i=k+1 by omega]; exact Int.le_refl _
  ·rw [if_neg (by rw [decide_eq_true_eq]; exact h)];refine ⟨by omega,fun i hi=>?_⟩;rcases Nat.lt_or_ge i (k+1) with z | z
   ·exact h2 i (by omega)
   ·rw [show i=k+1 by omega]; omega
def oV (ns:List Int) (h:ns≠[]):ns[argBest (fun i j=>decide (ns.getD i 0 > ns.getD j 0)) (ns.length - 1)]?=some (fc ns):=by
 obtain ⟨h1,h2⟩:=k9 (fun i=>ns.getD i 0) (ns.length - 1);have hl:0 < ns.length:=List.length_pos_iff.mpr h;revert h1 h2;generalize argBest (fun i j=>decide (ns.getD i 0 > ns.getD j 0)) (ns.length - 1)=k;intro h1 h2;have hk:k < ns.length:=by omega
 have gk:ns.getD k 0=ns[k]:=by rw [List.getD_eq_getElem?_getD,zak hk]; rfl
 have e:ns[k]=fc ns:=by
  refine Int.le_antisymm (pD (zaK hk)) ?_;obtain ⟨i,hi,e⟩:=List.mem_iff_getElem.mp (nE h);have z:=h2 i (by omega);rw [gk,List.getD_eq_getElem?_getD,zak hi] at z;rw [<- e];exact z
 rw [zak hk,e]
def qE:List D->Option D
 | [.list ts]=>(cL ts).bind fun ns=>grd (ns≠[]) (.int (fc ns))
 | _=>none
section
variable {X:Cx} {K:PySem.W.Frag}
def BO (hK:X.K=K) (hc:X.calm=true):CallR X (.builtin "max") (rFn K qE 3):=by
 subst hK;intro pins s σ H xs us Q I r ⟨O,as,t,oa,hd,hr,k⟩
 match as,hr with
 | [.list ts],hr =>
  obtain ⟨ns,h1,h2⟩:=zaa.mp hr;obtain ⟨c,rfl⟩:=cj h2;obtain ⟨v,rfl,o⟩:=oa.one;obtain ⟨p,vs,rfl,fz,w⟩:=o.lst0;have e:=kf w h1;subst e;obtain ⟨u,rfl,ru⟩:=cF r;cases ru;obtain ⟨its,rv,pl,hz⟩:=I.list fz.sq;have hl:its.length=ns.length:=by rw [<- rv.length,zad]
  have hlt:p < s.heap.objs.size:=by
   obtain ⟨o,n,e,_⟩:=id pl;exact zal e
  have hsz:its.toArray.size=ns.length:=by rw [zai,hl]
  have hn:0 < ns.length:=List.length_pos_iff.mpr c;refine call_max_walk (wpAny_pyIter_list pl.isList ?_);refine ⟨s.heap.objs.size,[s.heap.objs.size,p],[s.heap.objs.size],its.toArray.size,fun i v=>its.toArray[i]?=some v,_,fun i j=>decide (ns.getD i 0 > ns.getD j 0),rfl,Walks.list (A:=X.A.in1) (show X.A.in1.handled=none from I.ok.hd hc) s.heap.objs.size p (zaw hlt) its.toArray,?_,?_,?_,?_,?_⟩
  ·exact ⟨⟨_,zan _ rfl,rfl,rfl⟩,pl.isList.push _⟩
  ·intro b hb;show b < (s.heap.push _).objs.size;rw [Heap.size_push];have hb':b=s.heap.objs.size\/b=p:=by simpa using hb
   rcases hb' with rfl | rfl
   ·exact Nat.lt_succ_self _
   ·exact Nat.lt_succ_of_lt hlt
  ·rw [hsz]; exact hn
  ·refine CmpOf.ints_gt (fun i=>ns.getD i 0) fun i v hv=>?_;have hv':its[i]?=some v:=by simpa using hv
   have hi:i < ns.length:=by
    rw [<- hl];exact (zah.mp hv').1
   obtain ⟨u,hu,ru⟩:=rv.get (i:=i) (x:=V.int ns[i]) (by rw [zao,zak hi]; rfl);rw [hu] at hv';cases hv';obtain ⟨t,rfl⟩:=ru;refine ⟨t,?_⟩;rw [List.getD_eq_getElem?_getD,zak hi];rfl
  ·intro v h' tk hv hk;rw [hsz] at hv;have hv':its[argBest (fun i j=>decide (ns.getD i 0 > ns.getD j 0)) (ns.length - 1)]?=some v:=by simpa using hv
   obtain ⟨u,hu,ru⟩:=rv.get (i:=argBest (fun i j=>decide (ns.getD i 0 > ns.getD j 0)) (ns.length - 1)) (x:=V.int (fc ns)) (by rw [zao,oV ns c]; rfl);rw [hu] at hv';cases hv';refine ⟨.int (fc ns),H,I.kept (t':=tk) fun b o z=>hk b o ?_ (zaf _ z),ru,k _ H NoA .refl rfl⟩;intro z';have z'':b=s.heap.objs.size:=by simpa using z'
   exact zaw (zal z) z''
end
section
variable {X:Cx} {K:PySem.W.Frag} {p p1 p2:Bool} {ds ds1 ds2:List Nat} {d d1 d2:Nat} {e:Expr} {f f1 f2:ME} {σ:St} {H:Hp} {Q Q':VK}
end
def Ic:D->D->Option D
 | .tuple ts,b=>grd (noDict b=true/\aG ts=true/\bT ts<=60) (.int (ts.countP fun t=>peq t b:Nat))
 | _,_=>none
section
variable {X:Cx} {K:PySem.W.Frag} {p:Bool} {ds ds1 ds2:List Nat} {d d1 d2:Nat} {e:Expr} {f f1 f2:ME} {σ:St} {H:Hp} {Q Q':VK}
end
end L2
namespace L2
open PySem PySem.Spec PyProof.Rows HT
section
variable {prog:Program} {w:World} {A:Around} {E:Value->Shared->Prop} {s:Shared}
end
def Ir:D->Option Int->Option Int->Option D
 | .tuple ts,lo,hi=>some (.tuple (fP ts lo hi))
 | _,_,_=>none
section
variable {X:Cx} {K:PySem.W.Frag}
end
end L2
namespace L2
open PySem PySem.Spec PyProof.Rows
section
variable {P:Program} {w:World} {A:Around} {E:Value->Shared->Prop} {s:Shared}
end
section
variable {X:Cx} {K:PySem.W.Frag} {p p1 p2:Bool} {ds ds1 ds2:List Nat} {d d1 d2:Nat} {e k:Expr} {f f1 f2:ME} {fa:MA} {sh:Sh} {σ:St} {H:Hp} {Q Q':VK} {pos pos2 px py:Pos}
end
end L2
namespace L2
open PySem PySem.Spec PyProof.Rows PySem.SeqAt PySem.MeetsSeq
section
variable {X:Cx} {K:PySem.W.Frag}
end
section
variable {X:Cx} {K:PySem.W.Frag} {p p1 p2:Bool} {ds ds1 ds2:List Nat} {d d1 d2:Nat} {e:Expr} {f f1 f2:ME} {σ:St} {H:Hp} {Q Q':VK} {i:Nat}
end
section
variable {X:Cx} {K:PySem.W.Frag} {p p1 p2 q:Bool} {J:Jd} {ds ds0 ds1 ds2 ds' dsi dps:List Nat} {d d' d1 d2 dr:Nat} {a b c e tg iter:Expr} {es:List Expr} {st:Stmt} {rest body bodyB:List Stmt} {f f1 f2 fk fe:ME} {c1 c2:MT} {fa:MA} {sh:Sh} {pos px:Pos} {i:Nat} {x:Str} {m m1 m2:MS} {g:MG} {gs:List D->En->Option En} {fi:MI} {lk:List Nat}
end
end L2
namespace L2
open PySem PySem.Spec PyProof.Rows
structure ZApartT (z TI TO i1 i2 ta tb:Addr):Prop extends ZApart z TI TO i1 i2 where
 taz:ta≠z
 taTO:ta≠TO
 tai1:ta≠i1
 tai2:ta≠i2
 tbz:tb≠z
 tbTO:tb≠TO
 tbi1:tb≠i1
 tbi2:tb≠i2
def TSt (h:Heap) (i t:Addr) (x:Array Value) (k:Nat):Prop:=h.IsTupleIter i t k/\h.IsTuple t x
def TSt.ext {h h':Heap} {i t b:Addr} {x:Array Value} {k:Nat} (st:TSt h i t x k) (s:Heap.SameBut b h h') (n1:i≠b) (n2:t≠b):TSt h' i t x k :=
 ⟨let ⟨o,ho,r⟩:=st.1; ⟨o,s.extBut _ _ n1 ho,r⟩,let ⟨o,ho,r⟩:=st.2; ⟨o,s.extBut _ _ n2 ho,r⟩⟩
section
variable {prog:Program} {w:World} {A:Around} {E:Value->Shared->Prop} {s:Shared}
def lz {z TI TO i1 i2:Addr} {k1 k2:Nat} {x1 x2:Array Value} {ta tb:Addr} {a b:Value} {Q:Value->Shared->Prop} (hh:A.handled=none) (D:ZApartT z TI TO i1 i2 ta tb)
  (hz:IsZip s.heap z TI TO .none) (hTI:IsPair s.heap TI (.ref i1) (.ref i2)) (hTO:IsPair s.heap TO a b)
  (h1:TSt s.heap i1 ta x1 k1) (h2:TSt s.heap i2 tb x2 k2) (hk1:k1 < x1.size) (hk2:k2 < x2.size)
  (hQ:∀ h' tk (c d:Value),x1[k1]?=some c->x2[k2]?=some d->IsZip h' z TI TO (rawInt s.heap.objs.size)->IsPair h' TO c d->h'.IsTupleIter i1 ta (k1+1)->h'.IsTupleIter i2 tb (k2+1) ->
   IsPair h' s.heap.objs.size c d->h'.objs.size=s.heap.objs.size+1 ->
   (∀ c o,c≠z->c≠TO->c≠i1->c≠i2->s.heap.get? c=some o->h'.get? c=some o)->Q (.ref s.heap.objs.size) { s with heap:=h',toks:=tk }) :
  wpAny (model prog w) A (Builtin.«zip.__next__» ⟨[.ref z],[]⟩) (fun fin s'=>∃ v,fin=.done (.ret v)/\Q v s') E s:=by
 show wpAny _ _ (field (.ref z) 2 >>= _) _ _ _;refine zam (wpAny_field hz rfl (x:=.bool false) rfl ?_);show wpAny _ _ (field (.ref z) 3 >>= _) _ _ _;refine zam (wpAny_field hz rfl (x:=.ref TI) rfl ?_);refine zam (wpAny_seqItems hTI rfl ?_);show wpAny _ _ (Builtin.SmallTypes.ownedTupleIsFree (.ref z) >>= _) _ _ _;refine zam ?_;unfold Builtin.SmallTypes.ownedTupleIsFree;refine zam (wpAny_field hz rfl (x:=.none) rfl (zaT ?_));simp only [if_true];refine zam (wpAny_rule ?_);refine zam (wpAny_field hz rfl (x:=.ref TO) rfl ?_);refine zam (wpAny_setField_rec hz (by simp) fun h₁ hz₁ hs₁=>?_)
 replace hz₁:IsZip h₁ z TI TO .ellipsis:=hz₁
 refine zam ?_;simp only [List.zipIdx_cons,List.zipIdx_nil,List.forIn_cons,List.forIn_nil];refine zam (zam (wpAny_onRaise ?_));show wpAny _ _ (Builtin.SmallTypes.nextOf (.ref i1) >>= _) _ _ _;refine zam ((eA hh i1 ta D.tai1 x1).item k1 _ _ _ hk1 (h1.ext hs₁ D.i1z D.taz) fun v1 h₂ tk2 hp1 h1₂ hs₂=>zaT ?_);have hc:x1[k1]?=some v1:=hp1;have hTO₂:IsPair h₂ TO a b:=hs₂.extBut _ _ D.TOi1 (hs₁.extBut _ _ D.TOz hTO);refine zam (wpAny_seqItems hTO₂ rfl ?_);refine zam (wpAny_updateSeq_pair hTO₂ fun h₃ hTO₃ hs₃=>?_)
 replace hTO₃:IsPair h₃ TO v1 b:=hTO₃
 refine zam (wpAny_letGo (zaT ?_));refine zam (zam (wpAny_onRaise ?_));show wpAny _ _ (Builtin.SmallTypes.nextOf (.ref i2) >>= _) _ _ _;refine zam ((eA hh i2 tb D.tbi2 x2).item k2 _ _ _ hk2 (((h2.ext hs₁ D.i2z D.tbz).ext hs₂ D.i12.symm D.tbi1).ext hs₃ D.TOi2.symm D.tbTO) fun v2 h₄ tk4 hp2 h2₄ hs₄=>zaT ?_);have hd:x2[k2]?=some v2:=hp2;have hTO₄:IsPair h₄ TO v1 b:=hs₄.extBut _ _ D.TOi2 hTO₃;refine zam (wpAny_seqItems hTO₄ rfl ?_);refine zam (wpAny_updateSeq_pair hTO₄ fun h₅ hTO₅ hs₅=>?_)
 replace hTO₅:IsPair h₅ TO v1 v2:=hTO₅
 refine zam (wpAny_letGo (zaT (zaT ?_)));refine zam (wpAny_seqItems hTO₅ rfl ?_);refine zam (wpAny_newTuple ?_);have hsz:h₅.objs.size=s.heap.objs.size:=by rw [hs₅.1,hs₄.1,hs₃.1,hs₂.1,hs₁.1]
 have hz₅:IsZip h₅ z TI TO .ellipsis:=hs₅.extBut _ _ D.TOz.symm (hs₄.extBut _ _ D.i2z.symm (hs₃.extBut _ _ D.TOz.symm (hs₂.extBut _ _ D.i1z.symm hz₁)));have hk₅:∀ c o,c≠z->c≠TO->c≠i1->c≠i2->s.heap.get? c=some o->h₅.get? c=some o:=fun c o c1 c2 c3 c4 e =>
  hs₅.extBut _ _ c2 (hs₄.extBut _ _ c4 (hs₃.extBut _ _ c2 (hs₂.extBut _ _ c3 (hs₁.extBut _ _ c1 e))))
 have h1₅:TSt h₅ i1 ta x1 (k1+1):=((TSt.ext h1₂ hs₃ D.TOi1.symm D.taTO).ext hs₄ D.i12 D.tai2).ext hs₅ D.TOi1.symm D.taTO;have h2₅:TSt h₅ i2 tb x2 (k2+1):=TSt.ext h2₄ hs₅ D.TOi2.symm D.tbTO;have hzlt:z < h₅.objs.size:=zal hz₅;show wpAny _ _ (Builtin.SmallTypes.ownedTupleHandOut (.ref z) (.ref h₅.objs.size) >>= _) _ _ _;refine zam ?_;unfold Builtin.SmallTypes.ownedTupleHandOut;have hz₆:IsZip (h₅.push { cls:=.type "tuple",data:=.seq #[v1,v2] }) z TI TO .ellipsis:=zaf _ hz₅;refine zam (wpAny_setField_rec hz₆ (by simp) fun h₇ hz₇ hs₇=>?_)
 replace hz₇:IsZip h₇ z TI TO (rawInt h₅.objs.size):=hz₇
 refine wpAny_setField_rec hz₇ (by simp) fun h₈ hz₈ hs₈=>?_
 replace hz₈:IsZip h₈ z TI TO (rawInt h₅.objs.size):=hz₈
 have up:∀ c o,c≠z->h₅.get? c=some o->h₈.get? c=some o:=fun c o c1 e=>hs₈.extBut _ _ c1 (hs₇.extBut _ _ c1 (zaf _ e));have hT₈:IsPair h₈ h₅.objs.size v1 v2:=hs₈.extBut _ _ (Nat.ne_of_gt hzlt) (hs₇.extBut _ _ (Nat.ne_of_gt hzlt) (zan _ rfl));have hz8:h₈.objs.size=h₅.objs.size+1:=by rw [hs₈.1,hs₇.1,Heap.size_push]
 rw [hsz] at hz₈ hT₈ hz8;refine zaT ⟨_,rfl,?_⟩;show Q (.ref h₅.objs.size) _;rw [hsz];exact hQ h₈ _ v1 v2 hc hd hz₈ (up _ _ D.TOz hTO₅) (let ⟨o,ho,r⟩:=h1₅.1; ⟨o,up _ _ D.i1z ho,r⟩) (let ⟨o,ho,r⟩:=h2₅.1; ⟨o,up _ _ D.i2z ho,r⟩) hT₈ hz8 fun c o c1 c2 c3 c4 e=>up c o c1 (hk₅ c o c1 c2 c3 c4 e)
def mP {z TI TO i1 i2:Addr} {k1 k2:Nat} {x1 x2:Array Value} {ta tb:Addr} {a b:Value} {Q:Fin->Shared->Prop} (hh:A.handled=none) (D:ZApartT z TI TO i1 i2 ta tb)
  (hz:IsZip s.heap z TI TO .none) (hTI:IsPair s.heap TI (.ref i1) (.ref i2)) (hTO:IsPair s.heap TO a b)
  (h1:TSt s.heap i1 ta x1 k1) (h2:TSt s.heap i2 tb x2 k2) (hend:k1=x1.size\/(k1 < x1.size/\k2=x2.size))
  (hE:∀ h' e tk,(∀ c o,c≠z->c≠TO->c≠i1->c≠i2->s.heap.get? c=some o->h'.get? c=some o)->(∃ o,h'.get? e=some o/\o.cls=.type "StopIteration")->E (.ref e) { s with heap:=h',toks:=tk }) :
  wpAny (model prog w) A (Builtin.«zip.__next__» ⟨[.ref z],[]⟩) Q E s:=by
 show wpAny _ _ (field (.ref z) 2 >>= _) _ _ _;refine zam (wpAny_field hz rfl (x:=.bool false) rfl ?_);show wpAny _ _ (field (.ref z) 3 >>= _) _ _ _;refine zam (wpAny_field hz rfl (x:=.ref TI) rfl ?_);refine zam (wpAny_seqItems hTI rfl ?_);show wpAny _ _ (Builtin.SmallTypes.ownedTupleIsFree (.ref z) >>= _) _ _ _;refine zam ?_;unfold Builtin.SmallTypes.ownedTupleIsFree;refine zam (wpAny_field hz rfl (x:=.none) rfl (zaT ?_));simp only [if_true];refine zam (wpAny_rule ?_);refine zam (wpAny_field hz rfl (x:=.ref TO) rfl ?_);refine zam (wpAny_setField_rec hz (by simp) fun h₁ hz₁ hs₁=>?_)
 replace hz₁:IsZip h₁ z TI TO .ellipsis:=hz₁
 refine zam ?_;simp only [List.zipIdx_cons,List.zipIdx_nil,List.forIn_cons,List.forIn_nil];refine zam (zam (wpAny_onRaise ?_));show wpAny _ _ (Builtin.SmallTypes.nextOf (.ref i1) >>= _) _ _ _;rcases hend with rfl | ⟨hk1,rfl⟩
 ·refine zam ((eA hh i1 ta D.tai1 x1).done _ _ _ (h1.ext hs₁ D.i1z D.taz) fun h₂ e hs₂ he=>?_);obtain ⟨oe,hoe,hce⟩:=he;have hz₂:IsZip h₂ z TI TO .ellipsis:=hs₂ _ _ D.i1z.symm hz₁;have hez:e≠z:=fun x=>by subst x; rw [hz₂] at hoe; cases hoe; simp at hce
  refine wpAny_setField_rec hz₂ (by simp) fun h₃ _ hs₃=>hE h₃ e _ (fun c o c1 _ c3 _ x=>hs₃.extBut _ _ c1 (hs₂ _ _ c3 (hs₁.extBut _ _ c1 x))) ⟨oe,hs₃.extBut _ _ hez hoe,hce⟩
 ·refine zam ((eA hh i1 ta D.tai1 x1).item k1 _ _ _ hk1 (h1.ext hs₁ D.i1z D.taz) fun v1 h₂ tk2 hp1 h1₂ hs₂=>zaT ?_);have hTO₂:IsPair h₂ TO a b:=hs₂.extBut _ _ D.TOi1 (hs₁.extBut _ _ D.TOz hTO);refine zam (wpAny_seqItems hTO₂ rfl ?_);refine zam (wpAny_updateSeq_pair hTO₂ fun h₃ hTO₃ hs₃=>?_);refine zam (wpAny_letGo (zaT ?_));refine zam (zam (wpAny_onRaise ?_));show wpAny _ _ (Builtin.SmallTypes.nextOf (.ref i2) >>= _) _ _ _;refine zam ((eA hh i2 tb D.tbi2 x2).done _ _ _ (((h2.ext hs₁ D.i2z D.tbz).ext hs₂ D.i12.symm D.tbi1).ext hs₃ D.TOi2.symm D.tbTO) fun h₄ e hs₄ he=>?_);obtain ⟨oe,hoe,hce⟩:=he;have hz₄:IsZip h₄ z TI TO .ellipsis:=hs₄ _ _ D.i2z.symm (hs₃.extBut _ _ D.TOz.symm (hs₂.extBut _ _ D.i1z.symm hz₁));have hez:e≠z:=fun x=>by subst x; rw [hz₄] at hoe; cases hoe; simp at hce
  refine wpAny_setField_rec hz₄ (by simp) fun h₅ _ hs₅=>hE h₅ e _ (fun c o c1 c2 c3 c4 x=>hs₅.extBut _ _ c1 (hs₄ _ _ c4 (hs₃.extBut _ _ c2 (hs₂.extBut _ _ c3 (hs₁.extBut _ _ c1 x))))) ⟨oe,hs₅.extBut _ _ hez hoe,hce⟩
def kb {z TI TO i1 i2:Addr} {k1 k2:Nat} {x1 x2:Array Value} {ta tb:Addr} {a b:Value} {Q:Option Value->Shared->Prop} (hh:A.handled=none) (D:ZApartT z TI TO i1 i2 ta tb)
  (hz:IsZip s.heap z TI TO .none) (hTI:IsPair s.heap TI (.ref i1) (.ref i2)) (hTO:IsPair s.heap TO a b)
  (h1:TSt s.heap i1 ta x1 k1) (h2:TSt s.heap i2 tb x2 k2) (hk1:k1 < x1.size) (hk2:k2 < x2.size)
  (hQ:∀ h' tk (c d:Value),x1[k1]?=some c->x2[k2]?=some d->IsZip h' z TI TO (rawInt s.heap.objs.size)->IsPair h' TO c d->h'.IsTupleIter i1 ta (k1+1)->h'.IsTupleIter i2 tb (k2+1) ->
   IsPair h' s.heap.objs.size c d->h'.objs.size=s.heap.objs.size+1 ->
   (∀ c o,c≠z->c≠TO->c≠i1->c≠i2->s.heap.get? c=some o->h'.get? c=some o)->Q (some (.ref s.heap.objs.size)) { s with heap:=h',toks:=tk }) :
  wpAny (model prog w) A (pyNext (.ref z)) Q E s:=by
 have hT:s.TypeIs (.ref z) "zip":=⟨_,hz,rfl⟩;unfold pyNext;exact zam (wpAny_attempt (wpAny_callSpecial?_slot (name:=Str.ofString "__next__") hT F.slot_zip_next
  (wpAny_call_entry F.slot_zip_next hT F.entry_zip_next
   (lz hh D hz hTI hTO h1 h2 hk1 hk2 fun h' tk c d a1 a2 a3 a4 a5 a6 a7 a8 a9=>zaT (hQ h' tk c d a1 a2 a3 a4 a5 a6 a7 a8 a9)) (F.args_zip_next_1 _))))
def kB {z TI TO i1 i2:Addr} {k1 k2:Nat} {x1 x2:Array Value} {ta tb:Addr} {a b:Value} {Q:Option Value->Shared->Prop} (hh:A.handled=none) (D:ZApartT z TI TO i1 i2 ta tb)
  (hz:IsZip s.heap z TI TO .none) (hTI:IsPair s.heap TI (.ref i1) (.ref i2)) (hTO:IsPair s.heap TO a b)
  (h1:TSt s.heap i1 ta x1 k1) (h2:TSt s.heap i2 tb x2 k2) (hend:k1=x1.size\/(k1 < x1.size/\k2=x2.size))
  (hQ:∀ h' tk,(∀ c o,c≠z->c≠TO->c≠i1->c≠i2->s.heap.get? c=some o->h'.get? c=some o)->Q none { s with heap:=h',toks:=tk }):wpAny (model prog w) A (pyNext (.ref z)) Q E s:=by
 have hT:s.TypeIs (.ref z) "zip":=⟨_,hz,rfl⟩;unfold pyNext;refine zam (wpAny_attempt (wpAny_callSpecial?_slot (name:=Str.ofString "__next__") hT F.slot_zip_next
  (wpAny_call_entry F.slot_zip_next hT F.entry_zip_next (mP hh D hz hTI hTO h1 h2 hend fun h' e tk hk he=>?_) (F.args_zip_next_1 _))))
 obtain ⟨o,ho,hc⟩:=he;refine zam (wpAny_isInstance (T:="StopIteration") (b:=true) ⟨o,ho,hc⟩ isSubtype_stop ?_);exact zaT (hQ _ tk hk)
end
abbrev zT1 (h:Heap) (a:Addr):Heap:=h.push { cls:=.type "tuple_iterator",data:=.fields #[.ref a,.int 0 0] }
abbrev zT2 (h:Heap) (a b:Addr):Heap:=(zT1 h a).push { cls:=.type "tuple_iterator",data:=.fields #[.ref b,.int 0 0] }
abbrev zT3 (h:Heap) (a b:Addr):Heap:=(zT2 h a b).push { cls:=.type "tuple",data:=.seq #[.ref h.objs.size,.ref (zT1 h a).objs.size] }
abbrev zT4 (h:Heap) (a b:Addr):Heap:=(zT3 h a b).push { cls:=.type "tuple",data:=.seq #[.none,.none] }
abbrev zT5 (h:Heap) (a b:Addr):Heap:=(zT4 h a b).push { cls:=.type "zip",data:=.fields #[.none,.bool false,.bool false,.ref (zT2 h a b).objs.size,.ref (zT3 h a b).objs.size] }
def lP (a b:Addr) (x y:Array Value) :
  Meets (Builtin.«zip.__new__» ⟨[.type "zip",.ref a,.ref b],[]⟩) (fun _ R s=>(s.heap.IsTuple a x/\s.heap.IsTuple b y)/\R (.ok (.ret (.ref (zT4 s.heap a b).objs.size))) { s with heap:=zT5 s.heap a b }) :=
 .of_wp fun prog w A R s h=>by
  obtain ⟨hp,g,d,tk,os⟩:=s;obtain ⟨⟨ha,hb⟩,h⟩:=h;have hsub:isSubtype (.type "zip") (.type "zip")=pure true:=by rw [isSubtype_type]; kernel_rfl
  have hb':=hb.push { cls:=.type "tuple_iterator",data:=.fields #[.ref a,.int 0 0] }
  wp_walk using wpAny_pyIter_tuple ha,wpAny_pyIter_tuple hb'
  exact ⟨_,rfl,h⟩
section
variable {prog:Program} {w:World} {A:Around} {E:Value->Shared->Prop} {s:Shared}
def tz {a b:Addr} {x y:Array Value} {Q:Value->Shared->Prop}
  (ha:s.heap.IsTuple a x) (hb:s.heap.IsTuple b y) (h:∀ h',IsZip h' (s.heap.objs.size+4) (s.heap.objs.size+2) (s.heap.objs.size+3) .none->IsPair h' (s.heap.objs.size+2) (.ref s.heap.objs.size) (.ref (s.heap.objs.size+1)) ->
   IsPair h' (s.heap.objs.size+3) .none .none->h'.IsTupleIter s.heap.objs.size a 0->h'.IsTupleIter (s.heap.objs.size+1) b 0->h'.objs.size=s.heap.objs.size+5 ->
   (∀ c o,s.heap.get? c=some o->h'.get? c=some o)->Q (.ref (s.heap.objs.size+4)) { s with heap:=h' }) :
  wpAny (model prog w) A (call (.type "zip") [.ref a,.ref b]) Q E s:=by
 refine callType_new F.called_zip (by decide) (F.typeCall_zip_2 _ _) (F.newCall_zip_2 _ _) (fun obj=>F.args_object_init_3 obj _ _) F.entry_zip_new
  (lP a b x y) ?_
 have z1:(zT1 s.heap a).objs.size=s.heap.objs.size+1:=Heap.size_push ..;have z2:(zT2 s.heap a b).objs.size=s.heap.objs.size+2:=by rw [Heap.size_push,z1]
 have z3:(zT3 s.heap a b).objs.size=s.heap.objs.size+3:=by rw [Heap.size_push,z2]
 have z4:(zT4 s.heap a b).objs.size=s.heap.objs.size+4:=by rw [Heap.size_push,z3]
 have z5:(zT5 s.heap a b).objs.size=s.heap.objs.size+5:=by rw [Heap.size_push,z4]
 have g5:(zT5 s.heap a b).get? (zT4 s.heap a b).objs.size=some _:=zan _ rfl;have g4:(zT5 s.heap a b).get? (zT3 s.heap a b).objs.size=some _:=zaf _ (zan _ rfl);have g3:(zT5 s.heap a b).get? (zT2 s.heap a b).objs.size=some _:=zaf _ (zaf _ (zan _ rfl));have g2:(zT5 s.heap a b).get? (zT1 s.heap a).objs.size=some _:=zaf _ (zaf _ (zaf _ (zan _ rfl)));have g1:(zT5 s.heap a b).get? s.heap.objs.size=some _:=zaf _ (zaf _ (zaf _ (zaf _ (zan _ rfl))));refine ⟨⟨ha,hb⟩,?_⟩;show _/\_;rw [z2,z3,z4] at g5;rw [z1,z2] at g3;rw [z3] at g4;rw [z1] at g2;rw [z4];exact ⟨⟨_,g5,rfl⟩,h _ g5 g3 g4 ⟨_,g1,rfl,rfl⟩ ⟨_,g2,rfl,rfl⟩ z5 fun c o x =>
  zaf _ (zaf _ (zaf _ (zaf _ (zaf _ x))))⟩
end
def oF {n a b:Nat} (ha:a < n) (hb:b < n):ZApartT (n+4) (n+2) (n+3) n (n+1) a b :=
 ⟨qf n,zaw (by omega),zaw (by omega),zaw (by omega),zaw (by omega),zaw (by omega),zaw (by omega),zaw (by omega),zaw (by omega)⟩
section
variable {X:Cx} {tg:Expr} {K:PySem.W.Frag}
def vf (K:PySem.W.Frag) (a b:Addr):It :=
 ⟨fun i H=>∃ xs ys x y,SqT K H a xs/\SqT K H b ys/\xs[i]?=some x/\ys[i]?=some y,
  fun i H v H'=>∃ p x y,v=.ref p/\H p=none/\H'=upd H p (.tup [x,y])/\(∀ xs,SqT K H a xs->xs[i]?=some x)/\(∀ ys,SqT K H b ys->ys[i]?=some y),
  fun i H=>∃ xs ys,SqT K H a xs/\SqT K H b ys/\(i=xs.length\/(i < xs.length/\i=ys.length))⟩
def rB {P:Program} {w:World} {elts:List Expr} {k:Nat} {tp:Pos} (z TI TO i1 i2 a b:Addr) (D:ZApartT z TI TO i1 i2 a b) :
  Turn P w K (.Tuple elts k tp) (vf K a b) [z,TI,TO,i1,i2] z (fun i h=>IsZip h z TI TO .none/\IsPair h TI (.ref i1) (.ref i2)/\(∃ u v,IsPair h TO u v)/\h.IsTupleIter i1 a i/\h.IsTupleIter i2 b i) where
 mem:=by simp
 obj:=fun i h st c hc=>by
  obtain ⟨h1,h2,⟨u,v,h3⟩,⟨o4,g4,_,d4⟩,⟨o5,g5,_,d5⟩⟩:=st;have hc':c=z\/c=TI\/c=TO\/c=i1\/c=i2:=by simpa using hc
  rcases hc' with rfl | rfl | rfl | rfl | rfl
  ·exact ⟨_,h1,fun v q=>by
    have q':Data.fields _=Data.cell v:=q;cases q'⟩
  ·exact ⟨_,h2,fun v q=>by
    have q':Data.seq _ _=Data.cell v:=q;cases q'⟩
  ·exact ⟨_,h3,fun v q=>by
    have q':Data.seq _ _=Data.cell v:=q;cases q'⟩
  ·exact ⟨o4,g4,fun v q=>by rw [d4] at q; cases q⟩
  ·exact ⟨o5,g5,fun v q=>by rw [d5] at q; cases q⟩
 keep:=fun i h h' st kp=>⟨kp z (by simp) _ st.1,kp TI (by simp) _ st.2.1,let ⟨u,v,e⟩:=st.2.2.1; ⟨u,v,kp TO (by simp) _ e⟩,st.2.2.2.1.at fun o q=>kp i1 (by simp) o q,st.2.2.2.2.at fun o q=>kp i2 (by simp) o q⟩
 item:=by
  intro X hP hw hK hc i pins s σ H E I hf st hg;subst hP hw hK;obtain ⟨xs,ys,x,y,hq,hq2,hx,hy⟩:=hg;obtain ⟨its,rv,p,hz⟩:=I.tuple hq;obtain ⟨its2,rv2,p2,hz2⟩:=I.tuple hq2;obtain ⟨u,hu,ru⟩:=rv.get hx;obtain ⟨u2,hu2,ru2⟩:=rv2.get hy;obtain ⟨hZ,hTI,⟨c1,c2,hTO⟩,hi1,hi2⟩:=st;have bd1:i < its.toArray.size:=by have:=(zah.mp hu).1; simpa using this
  have bd2:i < its2.toArray.size:=by have:=(zah.mp hu2).1; simpa using this
  refine kb (I.ok.hd hc) D hZ hTI hTO ⟨hi1,p⟩ ⟨hi2,p2⟩ bd1 bd2 fun h1 tk c d hcx hdx a1 a2 a3 a4 a5 a6 a7=>?_;have ec:u=c:=by
   have e:its[i]?=some c:=by simpa using hcx
   rw [hu] at e; exact zat e
  have ed:u2=d:=by
   have e:its2[i]?=some d:=by simpa using hdx
   rw [hu2] at e; exact zat e
  subst ec ed;refine ⟨_,rfl,wpAny_letOwnedTupleGo_zip a1 fun h2 hz2' hs2=>?_⟩;have zL:z < s.heap.objs.size:=zal hZ;have ht2:IsPair h2 s.heap.objs.size u u2:=(hs2.2 _ (Nat.ne_of_gt zL)).trans a5;have hTI2:IsPair h2 TI (.ref i1) (.ref i2):=(hs2.2 _ D.TIz).trans (a7 _ _ D.TIz D.TITO D.TIi1 D.TIi2 hTI);have hTO2:IsPair h2 TO u u2:=(hs2.2 _ D.TOz).trans a2;have hi1':h2.IsTupleIter i1 a (i+1):=(let ⟨o,ho,r⟩:=a3; ⟨o,hs2.extBut _ _ D.i1z ho,r⟩);have hi2':h2.IsTupleIter i2 b (i+1):=(let ⟨o,ho,r⟩:=a4; ⟨o,hs2.extBut _ _ D.i2z ho,r⟩);have I2:Inv X pins σ (upd H s.heap.objs.size (.tup [x,y])) { s with heap:=h2,toks:=tk }:=by
   refine I.turnedLaid (fp:=[z,TI,TO,i1,i2]) hf (zav _) (fun c ob hb q=>?_) (fun c hb=>?_) ?_
   ·have n1:c≠z:=fun e=>hb (by simp [e]);have n3:c≠TO:=fun e=>hb (by simp [e]);have n4:c≠i1:=fun e=>hb (by simp [e]);have n5:c≠i2:=fun e=>hb (by simp [e]);exact (hs2.2 c n1).trans (a7 c ob n1 n3 n4 n5 q)
   ·have hb':c=z\/c=TI\/c=TO\/c=i1\/c=i2:=by simpa using hb
    rcases hb' with rfl | rfl | rfl | rfl | rfl
    ·exact ⟨_,hz2'⟩
    ·exact ⟨_,hTI2⟩
    ·exact ⟨_,hTO2⟩
    ·obtain ⟨o,ho,_⟩:=hi1';exact ⟨o,ho⟩
    ·obtain ⟨o,ho,_⟩:=hi2';exact ⟨o,ho⟩
   ·refine ⟨(by show 2<=sizeLine; decide),[u,u2],.cons ru (.cons ru2 .nil),?_⟩;exact ⟨_,ht2,rfl,_,rfl,rfl⟩
  have fr:∀ c∈[z,TI,TO,i1,i2],upd H s.heap.objs.size (.tup [x,y]) c=none:=fun c hb=>by
   have hlt:c < s.heap.objs.size:=by
    have hb':c=z\/c=TI\/c=TO\/c=i1\/c=i2:=by simpa using hb
    rcases hb' with rfl | rfl | rfl | rfl | rfl
    ·exact zL
    ·exact zal hTI
    ·exact zal hTO
    ·obtain ⟨o,ho,_⟩:=hi1;exact zal ho
    ·obtain ⟨o,ho,_⟩:=hi2;exact zal ho
   rw [ay (zaw hlt)];exact (hf c hb).1
  exact ⟨.ref s.heap.objs.size,_,I2,rfl,⟨_,x,y,rfl,I.fresh,rfl,fun zs hz=>by rw [I.tuple_inj hz hq]; exact hx,fun zs hz=>by rw [I.tuple_inj hz hq2]; exact hy⟩,⟨hz2',hTI2,⟨_,_,hTO2⟩,hi1',hi2'⟩,fr⟩
 done:=by
  intro X hP hw hK hc i pins s σ H E I hf st hg;subst hP hw hK;obtain ⟨xs,ys,hq,hq2,he⟩:=hg;obtain ⟨its,rv,p,hz⟩:=I.tuple hq;obtain ⟨its2,rv2,p2,hz2⟩:=I.tuple hq2;obtain ⟨hZ,hTI,⟨c1,c2,hTO⟩,hi1,hi2⟩:=st;have l1:=rv.length;have l2:=rv2.length;have he':i=its.toArray.size\/(i < its.toArray.size/\i=its2.toArray.size):=by
   rw [zai,zai];omega
  exact kB (I.ok.hd hc) D hZ hTI hTO ⟨hi1,p⟩ ⟨hi2,p2⟩ he' fun h' tk eb=>⟨rfl,I.turnedMany (t':=tk) hf fun c o hb q=>eb c o (fun e=>hb (by simp [e])) (fun e=>hb (by simp [e])) (fun e=>hb (by simp [e])) (fun e=>hb (by simp [e])) q⟩
 self:=fun _ _ _ _ _ st h=>wpAny_pyIter_zip st.1 h
def AA (K:PySem.W.Frag) (ta:TA):TI:=fun σ H R=>ta σ H fun vs H1=>∃ a b,vs=[.ref a,.ref b]/\(∃ xs,SqT K H1 a xs)/\(∃ ys,SqT K H1 b ys)/\R (vf K a b) H1
def A3 {l m:Expr} {ta:TA} {p pos:Pos} {elts:List Expr} {k:Nat} {tp:Pos} (hg:Gl X "zip") (hm:X.mg "zip"=none) (ha:PA X [l,m] ta) (hs:starEach [l,m] X.env=(false,eval l X.env) :: starEach [m] X.env:=by rfl) (hpl:(backTo pos (starEach [m] X.env)).any (·.1)=false:=by rfl) :
  PI X (.Tuple elts k tp) (.Call (.Name "zip" p) [l,m] [] pos) (AA X.K ta):=by
 intro pins s σ H R I h;refine Call_ (eK I hg hm boot_zip (PyProof.Rows.callWith_type1 (thn (ha pos pins s σ H _ I h) fun us s1 ⟨vs,H1,I1,r1,q1⟩=>?_) hs hpl));obtain ⟨a,b,e,⟨xs,hq⟩,⟨ys,hq2⟩,q⟩:=q1;subst e;obtain ⟨u,v,rfl,ru,rv'⟩:=qi r1;cases ru;cases rv';obtain ⟨its,rv,pl,hz⟩:=I1.tuple hq;obtain ⟨its2,rv2,pl2,hz2⟩:=I1.tuple hq2;have La:a < s1.heap.objs.size:=let ⟨_,e,_⟩:=pl; zal e;have Lb:b < s1.heap.objs.size:=let ⟨_,e,_⟩:=pl2; zal e;refine tz pl pl2 fun h' hZ hTI hTO hi1 hi2 hsz hk=>?_;refine wpAny_pyIter_zip hZ ?_;have I2:Inv X pins σ H1 { s1 with heap:=h' }:=I1.kept (t':=s1.toks) hk;refine ⟨s1.heap.objs.size+4,[s1.heap.objs.size+4,s1.heap.objs.size+2,s1.heap.objs.size+3,s1.heap.objs.size,s1.heap.objs.size+1],_,_,H1,rfl,I2,rB _ _ _ _ _ a b (oF La Lb),⟨hZ,hTI,⟨_,_,hTO⟩,hi1,hi2⟩,fun c hb=>?_,q⟩;have hb':s1.heap.objs.size<=c:=by
  have hb':c=s1.heap.objs.size+4\/c=s1.heap.objs.size+2\/c=s1.heap.objs.size+3\/c=s1.heap.objs.size\/c=s1.heap.objs.size+1:=by simpa using hb
  rcases hb' with rfl | rfl | rfl | rfl | rfl <;> omega
 exact I1.fpOk hb' (I1.hok.fresh hb')
def uy {l m:Expr} {ta:TA} {p pos:Pos} {elts:List Expr} {k:Nat} {tp:Pos} (hK:X.K=K) (hg:Gl X "zip") (hm:X.mg "zip"=none) (ha:PA X [l,m] ta) (hs:starEach [l,m] X.env=(false,eval l X.env) :: starEach [m] X.env:=by rfl) (hpl:(backTo pos (starEach [m] X.env)).any (·.1)=false:=by rfl) :
  PI X (.Tuple elts k tp) (.Call (.Name "zip" p) [l,m] [] pos) (AA K ta):=by subst hK; exact A3 hg hm ha hs hpl
end
section
variable {X:Cx} {K:PySem.W.Frag} {p:Bool} {ds ds1:List Nat} {d:Nat} {fa:MA} {sh:Sh} {O O1:AS} {H0 H:Hp} {ts us:List D} {vs ws:List V} {a b:Addr}
def rn (h:FzT K O H0 a vs) (ho:Ows K O H0 ts 0 vs NoA) (h':FzT K O H0 b ws) (ho':Ows K O H0 us 0 ws NoA):gx K O H0 (vf K a b) (cH ts us):=fun i H O1 h1 h2 h3=>by
 have sq:=(h.mv (bm h1 h2)).sq;have sq':=(h'.mv (bm h1 h2)).sq;refine ⟨fun u hu=>?_,fun hl=>⟨vs,ws,sq,sq',?_⟩⟩
 ·unfold cH at hu;rw [List.getElem?_zipWith] at hu;split at hu
  case h_2=>cases hu
  next t t' ht ht' =>
  cases hu;obtain ⟨v,hv,ov⟩:=ho.get ht;obtain ⟨w,hw,ow⟩:=ho'.get ht';refine ⟨⟨vs,ws,v,w,sq,sq',hv,hw⟩,fun x H1 ⟨q,v',w',e1,hp,e2,y1,y2⟩=>?_⟩;have e3:=y1 vs sq;have e4:=y2 ws sq';rw [hv] at e3;rw [hw] at e4;cases e3;cases e4;subst e1 e2;exact rX hp h3 (Ow.mv (bm h1 h2) t (fun _ z=>z) ov) (Ow.mv (bm h1 h2) t' (fun _ z=>z) ow)
 ·unfold cH at hl;rw [List.length_zipWith] at hl;rw [ho.len,ho'.len];omega
def nU (fa:MA):MI:=fun en=>(fa en).bind fun r=>match r.1 with
 | [.inl (.tuple ts),.inl (.tuple us)]=>some (cH ts us,r.2)
 | _=>none
def BQ {l m:Expr} {px pos:Pos} {elts:List Expr} {k:Nat} {tp:Pos} (hK:X.K=K) (hg:Gl X "zip") (hm:X.mg "zip"=none) (ha:PA X [l,m] (tFA K p ds ds1 sh fa)) (hs:aD l=true) (hs2:aD m=true) :
  PI X (.Tuple elts k tp) (.Call (.Name "zip" px) [l,m] [] pos) (tFI K p ds ds1 (nU fa)) :=
 (uy hK hg hm ha (by rw [aJ hs]) (by rw [aJ hs2]; rfl)).imp fun σ H R ⟨Ox,en,Rg,ts,en',e,hf,k⟩=>by
  unfold nU at hf;obtain ⟨⟨as,en1⟩,h1,hf⟩:=zaa.mp hf;refine ⟨Ox,en,Rg,as,en1,e,h1,fun vs H1 R1 F P o=>?_⟩
  dsimp only at hf
  split at hf
  case h_2=>cases hf
  next t1 t2 =>
  cases hf;obtain ⟨v,r,d,dr,F1,F2,e1,e2,s1,s2,_,o1,v2,r2,d2,dr2,G1,G2,e3,e4,s3,_,_,o2,o3⟩:=o;obtain ⟨_,o3⟩:=o3;subst e1 e3 o3;have q1:=Ow.letgo P s1 o1;have q2:=Ow.letgo P (fun b z=>s2 b (s3 b z)) o2;obtain ⟨a,xs,f1,⟨_,fz,ow⟩ | ⟨z,_⟩⟩:=q1
  ·obtain ⟨b,ys,f2,⟨_,fz2,ow2⟩ | ⟨z,_⟩⟩:=q2
   ·subst f1 f2;exact ⟨a,b,rfl,⟨xs,fz.sq⟩,⟨ys,fz2.sq⟩,k _ H1 R1 (P.less fun _ z=>z.elim) (rn fz ow fz2 ow2)⟩
   ·exact absurd rfl z
  ·exact absurd rfl z
end
section
variable {K:PySem.W.Frag} {p p1 p2 q:Bool} {J:Jd} {lk ds ds0 ds1 ds2 ds':List Nat} {d d' d1 d2:Nat} {f:ME} {i j:Nat} {g:MG} {gs:List D->En->Option En} {σ:St} {H:Hp} {Dn:Ends} {v:V} {vs:List V} {QS:St->Hp->Prop}
end
section
variable {X:Cx} {K:PySem.W.Frag} {J:Jd} {lk ds ds0 ds1 ds2 ds':List Nat} {e tg:Expr} {es:List Expr} {f:ME} {pos px:Pos} {i:Nat} {g:MG} {gs:List D->En->Option En}
end
section
variable {X:Cx} {K:PySem.W.Frag} {p:Bool} {ds:List Nat} {k v:Expr} {fk fv:ME} {pos:Pos} {σ:St} {H:Hp} {Q:VK} {O:AS}
end
structure QE (X:Cx) (e:Expr) (t:TE):Prop where
 h:PE X e t
structure QT (X:Cx) (e:Expr) (t:TT):Prop where
 h:PT X e t
structure QW (X:Cx) (e:Expr) (t:TT):Prop where
 h:PW X e t
structure QA (X:Cx) (e:List Expr) (t:TA):Prop where
 h:PA X e t
structure QS (X:Cx) (e:Stmt) (t:TS):Prop where
 h:PS X e t
structure QSs (X:Cx) (e:List Stmt) (t:TS):Prop where
 h:PSs X e t
structure QG (X:Cx) (e:Expr) (t:TG):Prop where
 h:PG X e t
structure QGs (X:Cx) (e:List Expr) (t:TGs):Prop where
 h:PGs X e t
structure QI (X:Cx) (tg e:Expr) (t:TI):Prop where
 h:PI X tg e t
structure QTs (X:Cx) (e:List Expr) (t:TT):Prop where
 h:PTs X e t
structure QPs (X:Cx) (pos:Pos) (ks:List (Option Expr)) (vs:List Expr) (t:List (TE × TE)):Prop where
 h:PPs X pos ks vs t
def qpt {X:Cx} {e:Expr} {t:TT} (h:QW X e t):QT X e t:=⟨h.h.pt⟩
section
variable {X:Cx} {K:PySem.W.Frag} {p p1 p2 q:Bool} {ds ds0 ds1 ds2 ds' dsi:List Nat} {d d' d1 d2:Nat} {a b c e:Expr} {es:List Expr} {f f1 f2:ME} {m c1 c2:MT} {fa:MA} {sh:Sh} {pos:Pos} {i:Nat} {x:Str}
def bC {x:Str} (hN:X.N[i]?=some x) (hv:Vis X.env.scope x) (h0:ds[i]?=some 0) (hd:(x == ("__debug__" : Str))=false) (hcd:(x == ("__classdict__" : Str))=false):QE X (.Name x pos) (tF K p ds ds 0 (aa i)):=⟨FC hN hv h0 hd hcd⟩
def lX {x:Str} (hN:X.N[i]?=some x) (hv:Vis X.env.scope x) (h0:ds[i]?=some d) (hds:ds.set i 0=ds') (hd:(x == ("__debug__" : Str))=false) (hcd:(x == ("__classdict__" : Str))=false):QE X (.Name x pos) (tF K false ds ds' d (eMv i)):=⟨GX hN hv h0 hds hd hcd⟩
def ai {n:Int} {j}:QE X (.Constant (.int n) j pos) (tF K p ds ds 3 (eC (.int n))):=⟨FO⟩
def ip {n:Bool} {j}:QE X (.Constant (.bool n) j pos) (tF K p ds ds 3 (eC (.bool n))):=⟨G6⟩
def bv {j}:QE X (.Constant .none j pos) (tF K p ds ds 3 (eC .none)):=⟨FI⟩
def bu {n:Str} {j}:QE X (.Constant (.str n) j pos) (tF K p ds ds 3 (eC (.str n))):=⟨FF⟩
def bX (h:QE X e (tF K p ds ds' d f)) (hd:d'<=d):QE X e (tF K p ds ds' d' f):=⟨FE h.h hd⟩
def cA (h:QE X e (tF K p ds0 ds' d f)) (hd:leD ds0 ds=true):QE X e (tF K false ds ds' d f):=⟨G4 h.h hd⟩
def ao {op:Operator} {g:D->D->Option D} (ho:OpR X (binaryOp op) (rF2 K g d)) (ha:QE X a (tF K p ds ds1 d1 f1)) (hb:QE X b (tF K p ds1 ds2 d2 f2)):QE X (.BinOp a op b pos) (tF K p ds ds2 d (e2 g f1 f2)):=⟨GW ho ha.h hb.h⟩
def pT {op:UnaryOp} {g:D->Option D} (ho:UnR X (unaryOp op) (rF1 K g d)) (ha:QE X a (tF K p ds ds1 d1 f1)):QE X (.UnaryOp op a pos) (tF K p ds ds1 d (e1 g f1)):=⟨GU ho ha.h⟩
def cq {op:CmpOp} {g:D->D->Option D} (ho:OpR X (compareOp op) (rF2 K g d)) (ha:QE X a (tF K p ds ds1 d1 f1)) (hb:QE X b (tF K p ds1 ds2 d2 f2)) (hm:behindInMarks op b=false):QE X (.Compare a [op] [b] pos) (tF K p ds ds2 d (e2 g f1 f2)):=⟨FR ho ha.h hb.h hm⟩
def ba {op:CmpOp} {g:D->D->Option D} (ho:OpR X (compareOp op) (rF2 K g d)) (ha:QE X a (tF K p ds ds1 d1 f1)) (hb:QE X b (tF K p ds1 ds2 d2 f2)) (hm:behindInMarks op b=false):QT X (.Compare a [op] [b] pos) (tFT K p ds ds2 (tV (e2 g f1 f2))):=⟨By ho ha.h hb.h hm⟩
def dY (h:QE X e (tF K p ds ds' d f)) (he:∀ whole,isTrue e X.env whole=(do let v <- whole; standAt e.pos; holding [v] (truthy v))):QT X e (tFT K p ds ds' (tV f)):=⟨Bv h.h he⟩
def gJ (ha:QT X a (tFT K p ds ds1 c1)):QW X (.BoolOp .And [a] pos) (tFT K p ds ds1 c1):=⟨Bs ha.h⟩
def gt (ha:QT X a (tFT K p ds ds1 c1)):QW X (.BoolOp .Or [a] pos) (tFT K p ds ds1 c1):=⟨Fg ha.h⟩
def iM {rest:List Expr} (ha:QT X a (tFT K p ds ds1 c1)) (hb:QW X (.BoolOp .And (b :: rest) pos) (tFT K p ds1 ds1 c2)):QW X (.BoolOp .And (a :: b :: rest) pos) (tFT K p ds ds1 (cu c1 c2)):=⟨Fh ha.h hb.h⟩
def ik {rest:List Expr} (ha:QT X a (tFT K p ds ds1 c1)) (hb:QW X (.BoolOp .Or (b :: rest) pos) (tFT K p ds1 ds1 c2)):QW X (.BoolOp .Or (a :: b :: rest) pos) (tFT K p ds ds1 (bOr c1 c2)):=⟨GO ha.h hb.h⟩
def mB (ha:QT X a (tFT K p ds ds1 c1)):QT X (.UnaryOp .Not a pos) (tFT K p ds ds1 (jC c1)):=⟨Bw ha.h⟩
def cM (h:QT X e (tFT K true ds0 ds0 c1)) (hd:leD ds0 ds=true):QT X e (tFT K p ds ds c1):=⟨Bz h.h hd⟩
def kj {op} (h:QE X a (tF K p ds ds1 d f)):QE X (.BoolOp op [a] pos) (tF K p ds ds1 d f):=⟨FG h.h⟩
def kl {rest:List Expr} (ha:QE X a (tF K p ds ds1 d1 f1)) (hb:QE X (.BoolOp .And (b :: rest) pos) (tF K p ds1 ds1 d f2)):QE X (.BoolOp .And (a :: b :: rest) pos) (tF K p ds ds1 d (jx f1 f2)):=⟨FT ha.h hb.h⟩
def B0 {rest:List Expr} (ha:QE X a (tF K p ds ds1 d1 f1)) (hb:QE X (.BoolOp .Or (b :: rest) pos) (tF K p ds1 ds1 d f2)):QE X (.BoolOp .Or (a :: b :: rest) pos) (tF K p ds ds1 d (eOr f1 f2)):=⟨GV ha.h hb.h⟩
def uT (ha:QE X a (tF K p ds ds1 d1 f)):QE X (.UnaryOp .Not a pos) (tF K p ds ds1 3 (l6 f)):=⟨FH ha.h⟩
def B3 (hc:QT X c (tFT K p ds ds1 c1)) (ha:QE X a (tF K p ds1 ds2 d f1)) (hb:QE X b (tF K p ds1 ds2 d f2)):QE X (.IfExp c a b pos) (tF K p ds ds2 d (eIf c1 f1 f2)):=⟨G0 hc.h ha.h hb.h⟩
def af  : QA X [] (tFA K p ds ds [] ah):=⟨Ca⟩
def ac (ha:QE X e (tF K p ds ds1 d f)) (hr:QA X es (tFA K p ds1 ds2 sh fa)) (hs:aD e=true):QA X (e :: es) (tFA K p ds ds2 (.inl d :: sh) (ad f fa)):=⟨uZ ha.h hr.h hs⟩
def kU {x:Str} (hN:X.N[i]?=some x) (hv:Vis X.env.scope x) (hr:QA X es (tFA K p ds ds2 sh fa)) (hd:(x == ("__debug__" : Str))=false) (hcd:(x == ("__classdict__" : Str))=false):QA X (.Name x pos :: es) (tFA K p ds ds2 (.inr i :: sh) (az i fa)):=⟨uY hN hv hr.h hd hcd⟩
def aL {c:Nat} (h:QA X es (tFA K p ds ds1 sh fa)) (hs:bD c sh=true) (hd:dn d=c) (hz:d≠0):QE X (.List es pos) (tF K p ds ds1 d (aO fa)):=⟨FJ h.h hs hd hz⟩
def cP {c:Nat} {x1} (h:QA X es (tFA K p ds ds1 sh fa)) (hs:bD c sh=true) (hd:dn d=c):QE X (.Tuple es x1 pos) (tF K p ds ds1 d (cR fa)):=⟨FD h.h hs hd⟩
def kT {id:String} {x:Str} {px:Pos} {g:List D->Option D} (hc:CallR X (.builtin id) (rFn K g d)) (hg:Gl X x) (hm:X.mg x=none) (hv:bootBuiltins x=some (.builtin id)) (ha:QA X (e :: es) (tFA K p ds ds1 sh fa)) (hsh:bD 0 sh=true) (hn:x≠"__name__") (hdb:(x == ("__debug__" : Str))=false) (he:aD e=true) (hpl:es.all aD=true):QE X (.Call (.Name x px) (e :: es) [] pos) (tF K p ds ds1 d (eN g fa)):=⟨uX hc hg hm hv ha.h hsh hn hdb he hpl⟩
def oS {T:String} {x:Str} {px:Pos} {g:List D->Option D} (hc:CallR X (.type T) (rFn K g d)) (hg:Gl X x) (hm:X.mg x=none) (hv:bootBuiltins x=some (.type T)) (ha:QA X (e :: es) (tFA K p ds ds1 sh fa)) (hsh:bD 0 sh=true) (hn:x≠"__name__") (hdb:(x == ("__debug__" : Str))=false) (he:aD e=true) (hpl:es.all aD=true):QE X (.Call (.Name x px) (e :: es) [] pos) (tF K p ds ds1 d (eN g fa)):=⟨sW hc hg hm hv ha.h hsh hn hdb he hpl⟩
def B4 {k:Nat} {x:Str} {ps:List Str} {px:Pos} {dps:List Nat} {dr:Nat} {F:List D->Option (D × En)} (G:Kn X.prog X.w X.K X.mg X.base k x ps (spF K dps dr F)) (hr:Room k X.A) (hg:Gl X x) (ha:QA X (e :: es) (tFA K p ds ds1 sh fa)) (hns:gj sh=true) (hcd:cr ds1 sh dps=true) (hdb:(x == ("__debug__" : Str))=false) (he:aD e=true) (hpl:es.all aD=true):QE X (.Call (.Name x px) (e :: es) [] pos) (tF K p ds ds1 dr (am F fa)):=⟨G5 G hr hg ha.h hns hcd hdb he hpl⟩
def uU {k:Nat} {x:Str} {ps:List Str} {px:Pos} {dps:List Nat} {dr:Nat} {F:List D->Option (D × En)} (G:Kn X.prog X.w X.K X.mg X.base k x ps (spF K dps dr F)) (hr:Room k X.A) (hg:Gl X x) (ha:QA X (e :: es) (tFA K false ds ds1 sh fa)) (hcd:cr ds1 sh dps=true) (hdb:(x == ("__debug__" : Str))=false) (he:aD e=true) (hpl:es.all aD=true):QE X (.Call (.Name x px) (e :: es) [] pos) (tF K false ds ds1 dr (am F fa)):=⟨FP G hr hg ha.h hcd hdb he hpl⟩
def eo {g:D->D->Option D} (ho:IxR X (rF2 K g d)) (ha:QE X a (tF K p ds ds1 d1 f1)) (hb:QE X b (tF K p ds1 ds2 d2 f2)) (hs:dw b):QE X (.Subscript a b pos) (tF K p ds ds2 d (e2 g f1 f2)):=⟨GZ ho ha.h hb.h hs⟩
def n9 {x:Str} {px:Pos} (hK:X.K=K) (hN:X.N[i]?=some x) (hv:Vis X.env.scope x) (h1:ds1[i]?=some 1) (hb:QE X b (tF K p ds ds1 d1 f)) (hs:dw b) (hd:(x == ("__debug__" : Str))=false) (hcd:(x == ("__classdict__" : Str))=false):QE X (.Subscript (.Name x px) b pos) (tF K p ds ds1 0 (dW i f)):=⟨FM hK hN hv h1 hb.h hs hd hcd⟩
def cQ {c:Nat} {x:Str} {px apos cpos:Pos} (hK:X.K=K) (hN:X.N[i]?=some x) (hv:Vis X.env.scope x) (h1:ds1[i]?=some d) (he:QE X e (tF K false ds ds1 c f)) (hz:d≠0) (hc:dn d=c) (hd:(x == ("__debug__" : Str))=false) (hcd:(x == ("__classdict__" : Str))=false) (hbase:attributeBase (.Name x px) "append" X.env (eval (.Name x px) X.env)=eval (.Name x px) X.env) (hfew:((backTo cpos (starEach [e] X.env)).all (fun x=>!x.1) && (backToKw cpos (keywordEach [] X.env)).all (fun x=>x.1.isSome) && decide (([e]:List Expr).length+([]:List Keyword).length+(if ([]:List Keyword).isEmpty then 0 else 1) < 30))=true) (hline:(apos.endLine == cpos.line)=true) (hs:starEach [e] X.env=[(false,eval e X.env)]) (hplain:(backTo cpos (starEach [] X.env)).any (·.1)=false):QE X (.Call (.Attribute (.Name x px) "append" apos) [e] [] cpos) (tF K false ds ds1 3 (bG i f)):=⟨FS hK hN hv h1 he.h hz hc hd hcd hbase hfew hline hs hplain⟩
def bI  : QTs X [] (tFT K p ds ds cY):=⟨Bu⟩
def sE (hc:QT X c (tFT K p ds ds1 c1)):QTs X [c] (tFT K p ds ds1 c1):=⟨Bt hc.h⟩
def gb {elt tg iter:Expr} {ifs:List Expr} {scope:Scope} {ns:List Str} {js:List (Option Nat)} {fi:MI} {g:MG} {lk:List Nat} {cd:Nat} (B:BlkOkC X scope ns js) (hc:X.calm=true) (hi:QI X tg iter (tFI K p ds ds1 fi)) (hg:∀ C cl s₀ H₀ fp,QG (aS X scope ns C cl s₀ H₀ fp) tg (tFG K lk dsi dsi g)) (ht:∀ C cl s₀ H₀ fp,QTs (aS X scope ns C cl s₀ H₀ fp) ifs (tFT K true dsi dsi c1)) (he:∀ C cl s₀ H₀ fp,QE (aS X scope ns C cl s₀ H₀ fp) elt (tF K true dsi dsi cd f)) (hcap:hR ds1 js dsi=true) (hd:dn d=cd) (hz:d≠0) (hlk:lk=hC js 0) (hs:∀ x,foldedSetIterable iter X.env x=pure x):QE X (.ListComp elt [⟨tg,iter,ifs,0⟩] scope pos) (tF K p ds ds1 d (eLC true fi g c1 f js)):=⟨GY B hc hi.h (fun C cl s₀ H₀ fp=>(hg C cl s₀ H₀ fp).h) (fun C cl s₀ H₀ fp=>(ht C cl s₀ H₀ fp).h) (fun C cl s₀ H₀ fp=>(he C cl s₀ H₀ fp).h) hcap hd hz hlk hs⟩
end
section
variable {X:Cx} {K:PySem.W.Frag} {p p1 p2 q:Bool} {J:Jd} {ds ds0 ds1 ds2 ds' dsi dps:List Nat} {d d' d1 d2 dr:Nat} {a b c e tg iter:Expr} {es:List Expr} {st:Stmt} {rest body bodyB:List Stmt} {f f1 f2 fk fe:ME} {c1 c2:MT} {fa:MA} {sh:Sh} {pos px:Pos} {i:Nat} {x:Str} {m m1 m2:MS} {g:MG} {gs:List D->En->Option En} {fi:MI} {lk:List Nat}
def aN  : QSs X [] (tFS K J ds ds aW):=⟨BC⟩
def ag (h1:QS X st (tFS K J ds ds1 m1)) (h2:QSs X rest (tFS K J ds1 ds2 m2)):QSs X (st :: rest) (tFS K J ds ds2 (aj m1 m2)):=⟨uJ h1.h h2.h⟩
def aK (h1:QS X st (tFS K J ds ds1 m1)):QSs X [st] (tFS K J ds ds1 m1):=⟨BB h1.h⟩
def sF (h:QSs X rest (tFS K J ds ds2 m)) (hd:leD ds1 ds2=true):QSs X rest (tFS K J ds ds1 m):=⟨BA h.h hd⟩
def bn (he:QE X e (tF K false ds ds1 d f)) (hs:swapsWith e none pos.line X.env=pure false):QS X (.Expr e pos) (tFS K J ds ds1 (bh f)):=⟨BJ he.h hs⟩
def sL (he:QE X e (tF K false ds ds1 J.dr f)) (hd:leD J.dsr ds1=true):QS X (.Return (some e) pos) (tFS K J ds ds' (aI f)):=⟨BH he.h hd⟩
def aU (hc:QT X c (tFT K false ds ds1 c1)) (ha:QSs X body (tFS K J ds1 ds2 m1)) (hb:QSs X bodyB (tFS K J ds1 ds2 m2)):QS X (.If c body bodyB pos) (tFS K J ds ds2 (sIf c1 m1 m2)):=⟨Ft hc.h ha.h hb.h⟩
def cN {x:Str} {pos':Pos} (hN:X.N.Nodup) (hi:X.N[i]?=some x) (hx:Loc X.env.scope x) (he:QE X e (tF K false ds ds1 d f)) (hds:ds1.set i d=ds') (hl:i < ds1.length) (hk:i ∉ J.lk) (hs:swapsWith e (some (.Name x pos')) pos.line X.env=pure false) (hf:X.fn x=true\/X.env.scope.names.lookup x=some .local):QS X (.Assign [.Name x pos'] e pos) (tFS K J ds ds' (aq i f)):=⟨BG hN hi hx he.h hds hl hk hs hf⟩
def dE {x:Str} {spos pos':Pos} {elt:Expr} {ifs:List Expr} {scope:Scope} {ns:List Str} {js:List (Option Nat)} {cd:Nat} (hN:X.N.Nodup) (hi':X.N[i]?=some x) (hx:X.env.scope.names.lookup x=some .local) (B:BlkOkC X scope ns js) (hc:X.calm=true) (hi:QI X tg iter (tFI K false ds ds1 fi)) (hg:∀ C cl s₀ H₀ fp,QG (aS X scope ns C cl s₀ H₀ fp) tg (tFG K lk dsi dsi g)) (ht:∀ C cl s₀ H₀ fp,QTs (aS X scope ns C cl s₀ H₀ fp) ifs (tFT K q dsi dsi c1)) (he:∀ C cl s₀ H₀ fp,QE (aS X scope ns C cl s₀ H₀ fp) elt (tF K q dsi dsi cd f)) (hds:ds1.set i d=ds') (hcap:hR ds1 js dsi=true) (hd:dn d=cd) (hz:d≠0) (hlk:lk=hC js 0) (hl:i < ds1.length) (hk:i ∉ J.lk) (hsw:swapsWith (.ListComp elt [⟨tg,iter,ifs,0⟩] scope pos) (some (.Name x pos')) spos.line X.env=pure true) (hs:∀ x,foldedSetIterable iter X.env x=pure x):QS X (.Assign [.Name x pos'] (.ListComp elt [⟨tg,iter,ifs,0⟩] scope pos) spos) (tFS K J ds ds' (aq i (eLC q fi g c1 f js))):=⟨sK hN hi' hx B hc hi.h (fun C cl s₀ H₀ fp=>(hg C cl s₀ H₀ fp).h) (fun C cl s₀ H₀ fp=>(ht C cl s₀ H₀ fp).h) (fun C cl s₀ H₀ fp=>(he C cl s₀ H₀ fp).h) hds hcap hd hz hlk hl hk hsw hs⟩
def eP {c:Nat} {x:Str} {spos:Pos} {k:Expr} (hN:X.N[i]?=some x) (hv:Vis X.env.scope x) (he:QE X e (tF K false ds ds1 c fe)) (hk:QE X k (tF K false ds1 ds2 d2 fk)) (h1:ds2[i]?=some d) (hz:d≠0) (hc:dn d=c) (hdb:(x == ("__debug__" : Str))=false) (hcd:(x == ("__classdict__" : Str))=false) (ha:∀ v,assign (.Subscript (.Name x px) k spos) X.env v=(do
   let ov <- holding [v] (eval (.Name x px) X.env);let iv <- holding [v,ov] (eval k X.env)
   standAt spos
   holding [v,ov,iv] (setItem ov iv v)
   release [v,ov,iv] [])) (hs:swapsWithSole [.Subscript (.Name x px) k spos] e pos.line X.env=pure false) (hw:swappedStores [.Subscript (.Name x px) k spos] e X.env=pure none) (h2:(assignEach [.Subscript (.Name x px) k spos] X.env).map (·.2)=[assign (.Subscript (.Name x px) k spos) X.env]):QS X (.Assign [.Subscript (.Name x px) k spos] e pos) (tFS K J ds ds2 (bY i fk fe)):=⟨uM hN hv he.h hk.h h1 hz hc hdb hcd ha hs hw h2⟩
def aF {x:Str} (hN:X.N.Nodup) (hi:X.N[i]?=some x) (hx:Loc X.env.scope x) (hds:ds.set i 0=ds') (hl:i < ds.length) (hk:i ∉ lk) (hf:X.fn x=true\/X.env.scope.names.lookup x=some .local):QG X (.Name x pos) (tFG K lk ds ds' (gN i)):=⟨uS hN hi hx hds hl hk hf⟩
def fW  : QGs X [] (fK K lk ds ds gs0):=⟨uQ⟩
def bJ (h1:QG X e (tFG K lk ds ds1 g)) (h2:QGs X es (fK K lk ds1 ds2 gs)) (hs:(assignEach (e :: es) X.env).map (·.2)=assign e X.env :: (assignEach es X.env).map (·.2)):QGs X (e :: es) (fK K lk ds ds2 (gsC g gs)):=⟨sS h1.h h2.h hs⟩
def gM {k n:Nat} (hK:X.K=K) (hc:X.calm=true) (h:QGs X es (fK K lk ds ds1 gs)) (hl:∀ ts en,(∃ en',gs ts en=some en')->ts.length=n) (hn:(assignEach es X.env).length=n) (hst:(assignEach es X.env).findIdx? (·.1)=none):QG X (.Tuple es k pos) (tFG K lk ds ds1 (gT gs)):=⟨BW hK hc h.h hl hn hst⟩
def cc (hc:X.calm=true) (hi:QI X tg iter (tFI K false ds ds1 fi)) (hg:QG X tg (tFG K J.lk ds1 ds2 g)) (hb:QSs X body (tFS K { J with dsl:=ds1 } ds2 ds1 m)) (hp:PassesOwn (model X.prog X.w) X.A X.env X.xe) (hs:∀ x,foldedSetIterable iter X.env x=pure x):QS X (.For tg iter body [] pos) (tFS K J ds ds1 (cC fi g m)):=⟨BI hc hi.h hg.h hb.h hp hs⟩
def gZ (hc:QT X c (tFT K false ds ds1 c1)) (hb:QSs X body (tFS K { J with dsl:=ds } ds1 ds m)) (hp:PassesOwn (model X.prog X.w) X.A X.env X.xe):QS X (.While c body [] pos) (tFS K J ds ds1 (bN c1 m)):=⟨sI hc.h hb.h hp⟩
end
section
variable {X:Cx} {K:PySem.W.Frag} {p:Bool} {ds ds1:List Nat} {d:Nat} {e tg l:Expr} {f:ME} {fa:MA} {sh:Sh}
def dU (hK:X.K=K) (hl:QE X l (tF K p ds ds1 d f)):QI X tg l (tFI K p ds ds1 (cE f)):=⟨FA hK hl.h⟩
def cO {a:Expr} {px pos:Pos} (hg:Gl X "range") (hm:X.mg "range"=none) (ha:QA X [a] (tFA K p ds ds1 sh fa)) (hs:aD a=true):QI X tg (.Call (.Name "range" px) [a] [] pos) (tFI K p ds ds1 (bt fa)):=⟨BR hg hm ha.h hs⟩
def mD {px pos:Pos} {elts:List Expr} {k:Nat} {tp:Pos} (hK:X.K=K) (hg:Gl X "enumerate") (hm:X.mg "enumerate"=none) (ha:QA X [l] (tFA K p ds ds1 sh fa)) (hs:starEach [l] X.env=[(false,eval l X.env)]):QI X (.Tuple elts k tp) (.Call (.Name "enumerate" px) [l] [] pos) (tFI K p ds ds1 (ij fa)):=⟨BS hK hg hm ha.h hs⟩
end
section
variable {X:Cx} {K:PySem.W.Frag} {p:Bool} {ds ds1:List Nat} {d1:Nat} {e:Expr} {f:ME}
def iN {T:Str} {n:String} {px pt pos:Pos} (hK:X.K=K) (hg:Gl X "isinstance") (hm:X.mg "isinstance"=none) (hgT:Gl X T) (hmT:X.mg T=none) (hbT:bootBuiltins T=some (.type n)) (hT:n∈["int", "bool", "str", "list", "tuple", "dict"]) (he:QE X e (tF K p ds ds1 d1 f)) (hnT:T≠"__name__") (hdT:(T == ("__debug__" : Str))=false) (hs1:starEach [e,.Name T pt] X.env=(false,eval e X.env) :: starEach [.Name T pt] X.env) (hs2:starEach [.Name T pt] X.env=(false,eval (.Name T pt) X.env) :: starEach [] X.env) (hpl:(backTo pos (starEach [.Name T pt] X.env)).any (·.1)=false):QE X (.Call (.Name "isinstance" px) [e,.Name T pt] [] pos) (tF K p ds ds1 3 (e1 (aA n) f)):=⟨FN hK hg hm hgT hmT hbT hT he.h hnT hdT hs1 hs2 hpl⟩
end
section
variable {X:Cx} {K:PySem.W.Frag} {p:Bool} {J:Jd} {ds ds0 ds1 ds2 ds3 ds':List Nat} {d d' d1 d2 d3:Nat} {a b c e:Expr} {st:Stmt} {f f1 f2 f3:ME} {m:MS} {pos p2:Pos}
def fB (h:QS X st (tFS K J ds ds2 m)) (hd:leD ds1 ds2=true):QS X st (tFS K J ds ds1 m):=⟨BF h.h hd⟩
variable {lo hi:MO}
end
section
variable {X:Cx} {K:PySem.W.Frag} {p:Bool} {J:Jd} {ds ds0 ds1 ds2 ds':List Nat} {d d' d1 d2:Nat} {a b c e o k:Expr} {f f1 f2 fk fe:ME} {pos px spos:Pos} {i:Nat} {σ:St} {H:Hp} {Q:VK} {Dn:Ends}
def sV  : QE X (.Dict [] [] pos) (tF K p ds ds 3 mY):=⟨B5⟩
def mE (hu:X.A.units+1 < cLine) (ho:QE X o (tF K p ds ds1 d1 f1)) (hi:QE X k (tF K p ds1 ds2 d2 f2)) (hs:mn k):QE X (.Subscript o k pos) (tF K p ds ds2 0 (e2 l9 f1 f2)):=⟨B7 hu ho.h hi.h hs⟩
def bc {x:Str} (hu:X.A.units+1 < cLine) (hN:X.N[i]?=some x) (hv:Vis X.env.scope x) (h1:ds1[i]?=some 1) (hi:QE X k (tF K p ds ds1 d1 f)) (hs:mn k) (hd:(x == ("__debug__" : Str))=false) (hcd:(x == ("__classdict__" : Str))=false):QE X (.Subscript (.Name x px) k pos) (tF K p ds ds1 0 (aP i f)):=⟨uW hu hN hv h1 hi.h hs hd hcd⟩
def mC (hu:X.A.units+1 < cLine) (ha:QE X a (tF K p ds ds1 d1 f1)) (hb:QE X b (tF K p ds1 ds2 d2 f2)) (h1:behindInMarks .NotIn b=false):QT X (.Compare a [.NotIn] [b] pos) (tFT K p ds ds2 (tV (e2 fG f1 f2))):=⟨Bx hu ha.h hb.h h1⟩
def di {x:Str} (hu:X.A.units+1 < cLine) (hN:X.N[i]?=some x) (hv:Vis X.env.scope x) (he:QE X e (tF K false ds ds1 0 fe)) (hk:QE X k (tF K false ds1 ds2 d2 fk)) (h1:ds2[i]?=some 1) (hdb:(x == ("__debug__" : Str))=false) (hcd:(x == ("__classdict__" : Str))=false) (hs:swapsWith e (some (.Subscript (.Name x px) k spos)) pos.line X.env=pure false):QS X (.Assign [.Subscript (.Name x px) k spos] e pos) (tFS K J ds ds2 (bE i fk fe)):=⟨uN hu hN hv he.h hk.h h1 hdb hcd hs⟩
end
section
variable {X:Cx} {K:PySem.W.Frag} {p:Bool} {J:Jd} {ds ds0 ds1 ds2 ds':List Nat} {d d' d1 d2:Nat} {a b c e o k:Expr} {es:List Expr} {f f1 f2 fk fe:ME} {fa:MA} {sh:Sh} {pos px spos:Pos} {i j:Nat} {σ:St} {H:Hp} {Q:VK} {Dn:Ends}
def ju {keys:List (Option Expr)} {values:List Expr} {fs:List (ME × ME)} (h:QPs X pos keys values (trs K p ds fs)) (hall:keys.all (·.isSome)=true) (hl:keys.length=values.length) (h0:keys≠[]) (h15:keys.length<=15):QE X (.Dict keys values pos) (tF K p ds ds 1 (fq fs)):=⟨B6 h.h hall hl h0 h15⟩
def kh  : QPs X pos [] [] (trs K p ds []):=⟨Fv⟩
def fC {k v:Expr} {ks:List (Option Expr)} {vs:List Expr} {fk fv:ME} {fs:List (ME × ME)} (hk:QE X k (tF K p ds ds 3 fk)) (hv:QE X v (tF K p ds ds 0 fv)) (hr:QPs X pos ks vs (trs K p ds fs)):QPs X pos (some k :: ks) (v :: vs) (trs K p ds ((fk,fv) :: fs)):=⟨BL hk.h hv.h hr.h⟩
end
section
variable {X:Cx} {K:PySem.W.Frag} {p:Bool} {ds ds1:List Nat} {O:AS} {H:Hp} {σ:St} {d:Nat} {f:ME} {i:Nat} {e:Expr} {Q:VK}
end
section
variable {X:Cx} {K:PySem.W.Frag} {p:Bool} {ds ds1:List Nat} {d:Nat} {fa:MA} {sh:Sh} {O O1:AS} {H0 H:Hp} {ts us:List D} {vs ws:List V} {a b:Addr}
end
section
variable {X:Cx} {K:PySem.W.Frag} {p:Bool} {ds ds1:List Nat} {d1:Nat} {e:Expr} {f:ME}
def jr {T1 T2:Str} {n1 n2:String} {px p1 p2 pos tp:Pos} {kk:Nat} (hK:X.K=K) (hg:Gl X "isinstance") (hm:X.mg "isinstance"=none) (hg1:Gl X T1) (hm1:X.mg T1=none) (hb1:bootBuiltins T1=some (.type n1)) (hg2:Gl X T2) (hm2:X.mg T2=none) (hb2:bootBuiltins T2=some (.type n2)) (hT:∀ T∈[n1,n2],T∈qj) (he:QE X e (tF K p ds ds1 d1 f)) (hn1:T1≠"__name__") (hd1:(T1 == ("__debug__" : Str))=false) (hn2:T2≠"__name__") (hd2:(T2 == ("__debug__" : Str))=false) (hs:aD e=true):QE X (.Call (.Name "isinstance" px) [e,.Tuple [.Name T1 p1,.Name T2 p2] kk tp] [] pos) (tF K p ds ds1 3 (e1 (fN [n1,n2]) f)):=⟨B1 hK hg hm hg1 hm1 hb1 hg2 hm2 hb2 hT he.h hn1 hd1 hn2 hd2 hs⟩
end
section
variable {X:Cx} {K:PySem.W.Frag} {p p1 p2:Bool} {ds ds1 ds2:List Nat} {d d1:Nat} {e:Expr} {f:ME} {fa:MA} {sh:Sh} {σ:St} {H:Hp} {Q:VK}
end
section
variable {X:Cx} {K:PySem.W.Frag} {p p1 p2:Bool} {J:Jd} {ds ds1 ds2:List Nat} {H:Hp} {σ:St} {d d1 d2 i m:Nat} {f fk fe:ME} {mp:MP} {e b o:Expr} {Q:VK}
def dZ {x:Str} {px:Pos} (hN:X.N[i]?=some x) (hv:Vis X.env.scope x) (hd:(x == ("__debug__" : Str))=false) (hcd:(x == ("__classdict__" : Str))=false):QE X (.Name x px) (tP K true ds ds i 0 (cJ i)):=⟨BK hN hv hd hcd⟩
def dS {pos:Pos} (hK:X.K=K) (hd:ds2[i]?=some d) (ho:QE X o (tP K p1 ds ds1 i m mp)) (hb:QE X b (tF K p2 ds1 ds2 d1 f)) (hz:dns m d≠0) (hpu:p2=true\/m=0) (hs:dw b):QE X (.Subscript o b pos) (tP K (p1 && p2) ds ds2 i (m+1) (pIx i mp f)):=⟨Fu hK hd ho.h hb.h hz hpu hs⟩
def fF {apos cpos:Pos} {c:Nat} (hK:X.K=K) (hd1:ds1[i]?=some d) (hd:ds2[i]?=some d) (ho:QE X o (tP K p1 ds ds1 i m mp)) (he:QE X e (tF K true ds1 ds2 c f)) (hz:dns m d≠0) (hc:dn (dns m d)=c) (hbase:attributeBase o "append" X.env (eval o X.env)=eval o X.env) (hfew:((backTo cpos (starEach [e] X.env)).all (fun x=>!x.1) && (backToKw cpos (keywordEach [] X.env)).all (fun x=>x.1.isSome) && decide (([e]:List Expr).length+([]:List Keyword).length+(if ([]:List Keyword).isEmpty then 0 else 1) < 30))=true) (hline:(apos.endLine == cpos.line)=true) (hs:starEach [e] X.env=[(false,eval e X.env)]) (hplain:(backTo cpos (starEach [] X.env)).any (·.1)=false):QE X (.Call (.Attribute o "append" apos) [e] [] cpos) (tF K false ds ds2 3 (b8 i mp f)):=⟨B8 hK hd1 hd ho.h he.h hz hc hbase hfew hline hs hplain⟩
end
section
variable {X:Cx} {K:PySem.W.Frag} {p p1 p2:Bool} {ds ds1 ds2:List Nat} {d d1 d2:Nat} {e k:Expr} {f f1 f2:ME} {fa:MA} {sh:Sh} {σ:St} {H:Hp} {Q Q':VK} {pos pos2 px py:Pos}
end
section
variable {X:Cx} {K:PySem.W.Frag} {p p1 p2:Bool} {ds ds1 ds2:List Nat} {d d1 d2:Nat} {a b:Expr} {f f1 f2:ME} {σ:St} {H:Hp} {Q Q':VK} {pos:Pos} {ta tb:TE} {rest:List Expr}
end
section
variable {X:Cx} {K:PySem.W.Frag} {p p1 p2:Bool} {ds ds1 ds2:List Nat} {d d1 d2:Nat} {a b:Expr} {f f1 f2:ME} {σ:St} {H:Hp} {Q Q':VK} {pos:Pos}
def n8 (hK:X.K=K) (ha:QE X a (tF K p ds ds1 d f1)) (hb:QE X b (tF K p ds1 ds2 d2 f2)) (hs:dw b) (hz:d≠0):QE X (.Subscript a b pos) (tF K p ds ds2 (dn d) (e2 ixA f1 f2)):=⟨FK hK ha.h hb.h hs hz⟩
end
section
variable {X:Cx} {K:PySem.W.Frag} {p p1 p2:Bool} {ds ds1 ds2:List Nat} {d d1 d2:Nat} {e:Expr} {f f1 f2:ME} {σ:St} {H:Hp} {Q Q':VK}
end
section
variable {X:Cx} {K:PySem.W.Frag} {p:Bool} {ds ds1 ds2:List Nat} {d d1 d2:Nat} {e:Expr} {f f1 f2:ME} {σ:St} {H:Hp} {Q Q':VK}
end
section
variable {X:Cx} {K:PySem.W.Frag} {p p1 p2:Bool} {ds ds1 ds2:List Nat} {d d1 d2:Nat} {e k:Expr} {f f1 f2:ME} {fa:MA} {sh:Sh} {σ:St} {H:Hp} {Q Q':VK} {pos pos2 px py:Pos}
end
section
variable {X:Cx} {K:PySem.W.Frag} {p p1 p2:Bool} {ds ds1 ds2:List Nat} {d d1 d2:Nat} {e:Expr} {f f1 f2:ME} {σ:St} {H:Hp} {Q Q':VK} {i:Nat}
end
section
variable {X:Cx} {K:PySem.W.Frag} {p p1 p2 q:Bool} {J:Jd} {ds ds0 ds1 ds2 ds' dsi dps:List Nat} {d d' d1 d2 dr:Nat} {a b c e tg iter:Expr} {es:List Expr} {st:Stmt} {rest body bodyB:List Stmt} {f f1 f2 fk fe:ME} {c1 c2:MT} {fa:MA} {sh:Sh} {pos px:Pos} {i:Nat} {x:Str} {m m1 m2:MS} {g:MG} {gs:List D->En->Option En} {fi:MI} {lk:List Nat}
end
section
variable {X:Cx} {K:PySem.W.Frag} {p:Bool} {ds ds1:List Nat} {d:Nat} {fa:MA} {sh:Sh} {O O1:AS} {H0 H:Hp} {ts us:List D} {vs ws:List V} {a b:Addr}
end
section
variable {X:Cx} {K:PySem.W.Frag} {J:Jd} {lk ds ds0 ds1 ds2 ds':List Nat} {e tg:Expr} {es:List Expr} {f:ME} {pos px:Pos} {i:Nat} {g:MG} {gs:List D->En->Option En}
end
section
variable {X:Cx} {K:PySem.W.Frag} {p:Bool} {ds:List Nat} {k v:Expr} {fk fv:ME} {pos:Pos} {σ:St} {H:Hp} {Q:VK} {O:AS}
end
def Fun.okQ {P:Program} {w:World} {K:PySem.W.Frag} {mg:Str->Option Value} {base:Heap} {x qual:Str} {st:Stmt} {f:Addr} {fd:FuncData} {N ps:List Str} {k n dr:Nat} {dps ds0:List Nat} {J:Jd} {b:MS}
  (F:Fun K x qual st f fd) (S:FnScope N ps (av st)) (hl:dps.length=ps.length) (hn:N.length - dps.length=n) (hJ:J=⟨nH dps,dps++List.replicate n 0,dr,[]⟩) (hd:ds0=dps++List.replicate n 0)
  (hb:∀ (cdv:Value) (A:Around) (outer:List Env) (s:Shared) (H:Hp) (E:XK),Room k (A.deeper (envOfC qual (av st) s.heap.objs.size f cdv)) ->
   QSs (km CX0 P w K mg base N qual (av st) f cdv A outer s H E).nox (ca st) (tFS K J ds0 ds0 b)):FnOk P w K mg base CX0 (k+1) f fd ps (spF K dps dr (fnF n dps b)):=by
 subst hJ hd;exact F.ok S (fun vs H Q E h=>AL hl h) fun cdv A outer s H vs Q E hr h=>⟨_,(hb cdv A outer s H E hr).h,BP hn h⟩
def EX (F:List D->Option (D × En)):Prop:=∀ ns:List Int,ns.length<=63->∃ outs,F [.list (ns.map .int)]=some (.bool true,outs)
def ky (K:PySem.W.Frag):Sp:=fun vs H Q _=>∃ (a:Addr) (ns:List Int),vs=[.ref a]/\SqL K H a (ns.map V.int)/\(∀ b,H b=none\/∃ o xs,H b=some (.frz o (.lst xs)))/\ns.length<=63/\∀ H':Hp,Q (.bl true) H'
def jZ {K:PySem.W.Frag} {O:AS} {H:Hp}:∀ ns:List Int,Ows K O H (ns.map .int) 0 (ns.map V.int) NoA
 | []=>rfl
 | n :: r=>⟨.int n,r.map V.int,NoA,NoA,rfl,fun _ z=>z,fun _ z=>z,fun _ z=>z.elim,rfl,jZ r⟩
def EW {K:PySem.W.Frag} {dr:Nat} {F:List D->Option (D × En)} (h:EX F) {vs:List V} {H:Hp} {Q:VK} {E:XK} (q:ky K vs H Q E):spF K [0] dr F vs H Q E:=by
 obtain ⟨a,ns,rfl,hs,_,hl,q⟩:=q;obtain ⟨outs,e⟩:=h ns hl;have fz:FzL K (fun _=>False) H a (ns.map V.int):=by
  rcases hs with hs | hs
  ·exact .inl ⟨hs,fun z=>z⟩
  ·exact .inr fun H'=>.inr hs
 have eO:Own (fun _=>NoA) NoA=(fun _=>False):=dq fun b=>⟨fun z=>z.elim (fun ⟨_,z⟩=>z) fun z=>z,fun z=>z.elim⟩;refine ⟨NoA,[.list (ns.map .int)],fun _=>NoA,.bool true,outs,⟨fun i t hi=>?_,fun _ _ _ z=>z.elim,fun _ _ z=>z.elim,fun b z=>?_,rfl,rfl⟩,e,fun v H' R' Fr _ o=>?_⟩
 ·cases i with
  | zero =>
   have:t=.list (ns.map .int):=by
    have h2:some (some (PyData.list (ns.map .int)))=some (some t):=hi;injection h2 with h3
    injection h3 with h4
    exact h4.symm
   subst this;refine ⟨.ref a,0,rfl,rfl,?_⟩;rw [eO];exact ⟨a,ns.map V.int,rfl,.inl ⟨rfl,fz,jZ ns⟩⟩
  | succ i=>simp at hi
 ·rw [eO] at z;exact z.elim
 ·rw [show v=.bl true from o];exact q H'
inductive All2 (r:D->D->Prop):List D->List D->Prop
 | nil:All2 r [] []
 | cons {a b:D} {as bs:List D} (h:r a b) (t:All2 r as bs):All2 r (a :: as) (b :: bs)
section
variable {c:MT} {b:MS} {en en1 en2:En} {fl:Fl} {t:D}
def ir:∀ {n m:Nat} {en:En} {fl:Fl},whN c b n en=some fl->n<=m->whN c b m en=some fl
 | 0,_,_,_,h,_=>by cases h
 | n+1,0,_,_,_,h=>by omega
 | n+1,m+1,en,fl,h,hm=>by
  unfold whN at h ⊢;obtain ⟨r,h1,h⟩:=zaa.mp h;rw [h1];show (if r.1=true then _ else _)=_;by_cases hr:r.1=true
  ·rw [if_pos hr] at h ⊢;obtain ⟨f1,h2,h⟩:=zaa.mp h;rw [h2];cases f1 with
   | nx e=>exact ir (n:=n) (m:=m) h (by omega)
   | ct e=>exact ir (n:=n) (m:=m) h (by omega)
   | rt t e=>exact h
  ·rw [if_neg hr] at h ⊢;exact h
def gH {n:Nat} (h:whN c b n en=some fl):bN c b en=some fl:=by
 have q:∃ n fl,whN c b n en=some fl:=⟨n,fl,h⟩;unfold bN;rw [dif_pos q];have h2:=q.choose_spec.choose_spec;have h3:=ir h (Nat.le_max_left n q.choose);have h4:=ir h2 (Nat.le_max_right n q.choose);rw [h3] at h4;exact h4.symm
def oG (h:c en=some (false,en1)):bN c b en=some (.nx en1):=by
 refine gH (n:=1) ?_;unfold whN;rw [h];rfl
def oH (h:c en=some (true,en1)) (h1:b en1=some (.nx en2)) (h2:bN c b en2=some fl):bN c b en=some fl:=by
 obtain ⟨n,h3⟩:=gU h2;refine gH (n:=n+1) ?_;unfold whN;rw [h];show (b en1).bind _=_;rw [h1];exact h3
def pF {g:MG} {c:MT} {f:ME} (I:Nat->En->Prop) (r:D->D->Prop) {N:Nat} (hs:∀ n t en,n < N->I n en->∃ en1 en2 q en3,g t en=some en1/\c en1=some (true,en2)/\f en2=some (q,en3)/\I (n+1) en3/\r t q) :
  ∀ (ts acc:List D) (n:Nat) (en:En),I n en->n+ts.length<=N->acc.length+ts.length<=sizeLine->∃ us en',lcF g c f ts acc en=some (acc++us,en')/\I (n+ts.length) en'/\All2 r ts us
 | [],acc,n,en,hi,_,_=>⟨[],en,by rw [List.append_nil]; rfl,hi,.nil⟩
 | t :: ts,acc,n,en,hi,hN,hl=>by
  have hN':n+(ts.length+1)<=N:=hN;obtain ⟨en1,en2,q,en3,h1,h2,h3,h4,h5⟩:=hs n t en (by omega) hi;have hl':acc.length+(ts.length+1)<=sizeLine:=hl;obtain ⟨us,en',h6,h7,h8⟩:=pF I r hs ts (acc++[q]) (n+1) en3 h4 (by omega) (by rw [zae]; show acc.length+1+_<=_; omega);refine ⟨q :: us,en',?_,by rw [show n+(t :: ts).length=n+1+ts.length by show n+(ts.length+1)=_; omega]; exact h7,.cons h5 h8⟩;unfold lcF;rw [h1];show (c en1).bind _=_;rw [h2];show (f en2).bind _=_;rw [h3];show (if acc.length < sizeLine then _ else _)=_;rw [if_pos (by omega),h6];simp
def All2.ex {α:Type} {h:α->D} {Q:α->Prop}:∀ {ts us:List D},All2 (fun _ q=>∃ o,q=h o/\Q o) ts us->∃ os:List α,us=os.map h/\os.length=ts.length/\∀ o∈os,Q o
 | _,_,.nil=>⟨[],rfl,rfl,fun _ z=>by cases z⟩
 | _,_,.cons ⟨o,e,q⟩ t=>by
  obtain ⟨os,e1,e2,e3⟩:=All2.ex t;refine ⟨o :: os,by rw [e,e1]; rfl,by show os.length+1=_+1; rw [e2],fun x hx=>?_⟩;rcases zay.mp hx with rfl | hx
  ·exact q
  ·exact e3 x hx
def fV {c:MT} {f:ME} {p:D->Bool} {F:D->D} {rest:En}:∀ (ts acc:List D) (o:Option D),(∀ t∈ts,c (some t :: rest)=some (p t,some t :: rest))->(∀ t∈ts,p t=true->f (some t :: rest)=some (F t,some t :: rest))->acc.length+ts.length<=sizeLine ->
  ∃ o',lcF (gN 0) c f ts acc (o :: rest)=some (acc++(ts.filter p).map F,o' :: rest)
 | [],acc,o,_,_,_=>⟨o,by simp [lcF]⟩
 | t :: ts,acc,o,hc,hf,hl=>by
  have hl':acc.length+(ts.length+1)<=sizeLine:=hl;cases hp:p t with
  | true =>
   obtain ⟨o',h⟩:=fV (c:=c) (f:=f) (p:=p) (F:=F) ts (acc++[F t]) (some t) (fun x hx=>hc x (zaj _ hx)) (fun x hx=>hf x (zaj _ hx)) (by rw [zae]; show acc.length+1+_<=_; omega);refine ⟨o',?_⟩;unfold lcF;show ((c (some t :: rest)).bind _)=_;rw [hc t zaq,hp];show ((f (some t :: rest)).bind _)=_;rw [hf t zaq hp];show (if acc.length < sizeLine then _ else _)=_;rw [if_pos (by omega)]
   dsimp only
   rw [h,List.filter_cons_of_pos hp];simp
  | false =>
   obtain ⟨o',h⟩:=fV (c:=c) (f:=f) (p:=p) (F:=F) ts acc (some t) (fun x hx=>hc x (zaj _ hx)) (fun x hx=>hf x (zaj _ hx)) (by omega);refine ⟨o',?_⟩;unfold lcF;show ((c (some t :: rest)).bind _)=_;rw [hc t zaq,hp];show lcF (gN 0) c f ts acc (some t :: rest)=_;rw [h,List.filter_cons_of_neg (by rw [hp]; decide)]
def pE {f:ME} {F:D->D} {rest:En} (ts acc:List D) (o:Option D) (hf:∀ t∈ts,f (some t :: rest)=some (F t,some t :: rest)) (hl:acc.length+ts.length<=sizeLine) :
  ∃ o',lcF (gN 0) cY f ts acc (o :: rest)=some (acc++ts.map F,o' :: rest):=by
 obtain ⟨o',h⟩:=fV (c:=cY) (f:=f) (p:=fun _=>true) (F:=F) ts acc o (fun _ _=>rfl) (fun t ht _=>hf t ht) hl;rw [List.filter_eq_self.mpr (fun _ _=>rfl)] at h;exact ⟨o',h⟩
def uO {g:MG} {b:MS} (I:Nat->En->Prop) {ts:List D} (hs:∀ i t en,ts[i]?=some t->I i en->∃ en1 en2,g t en=some en1/\(b en1=some (.nx en2)\/b en1=some (.ct en2))/\I (i+1) en2) {en:En} (h0:I 0 en) :
  ∃ en',bW g b ts en=some (.nx en')/\I ts.length en':=by
 suffices ∀ (us:List D) (i:Nat) (en:En),ts.drop i=us->i<=ts.length->I i en->∃ en',bW g b us en=some (.nx en')/\I ts.length en' from this ts 0 en rfl (Nat.zero_le _) h0
 intro us
 induction us with
 | nil =>
  intro i en hu hi h;refine ⟨en,rfl,?_⟩
  have:ts.length - i=0:=by rw [<- zaF,hu]; rfl
  rw [show ts.length=i by omega];exact h
 | cons t us ih =>
  intro i en hu hi h;have ht:ts[i]?=some t:=by
   have:(ts.drop i)[0]?=some t:=by rw [hu]; rfl
   rw [List.getElem?_drop] at this;exact this
  obtain ⟨en1,en2,h1,h2,h3⟩:=hs i t en ht h;have hl:i < ts.length:=(zah.mp ht).1;have hd:ts.drop (i+1)=us:=by rw [<- List.drop_drop,hu]; rfl
  obtain ⟨en',h4,h5⟩:=ih (i+1) en2 hd hl h3;refine ⟨en',?_,h5⟩;unfold bW;rw [h1];show (b en1).bind _=_;rcases h2 with h2 | h2
  ·rw [h2]; exact h4
  ·rw [h2]; exact h4
end
section
variable {c c1 c2:MT} {m1 m2 b:MS} {en en1 en2:En} {fl:Fl} {t t1 t2 u:D} {f f1 f2:ME} {g:D->D->Option D} {fa:MA} {i n:Nat} {x y:Bool} {F:List D->Option (D × En)} {as:List (D ⊕ Nat)} {ts:List D} {outs:En} {dps:List Nat}
def aE (h1:m1 en=some (.nx en1)) (h2:m2 en1=some fl):aj m1 m2 en=some fl:=by unfold aj; rw [h1]; exact h2
def iq (h1:m1 en=some (.rt t en1)):aj m1 m2 en=some (.rt t en1):=by unfold aj; rw [h1]; rfl
def eQ {b:Bool} (h1:c en=some (b,en1)) (hb:b=true) (h2:m1 en1=some fl):sIf c m1 m2 en=some fl:=by unfold sIf; rw [h1,hb]; exact h2
def jv {b:Bool} (h1:c en=some (b,en1)) (hb:b=false) (h2:m2 en1=some fl):sIf c m1 m2 en=some fl:=by unfold sIf; rw [h1,hb]; exact h2
def bR (h:f en=some (t,en1)) (he:en1.set i (some t)=en2):aq i f en=some (.nx en2):=by unfold aq; rw [h,<- he]; rfl
def sY (h:f en=some (t,en1)):bh f en=some (.nx en1):=by unfold bh; rw [h]; rfl
def kX (h:f en=some (t,en1)):aI f en=some (.rt t en1):=by unfold aI; rw [h]; rfl
def bf (h1:f1 en=some (t1,en1)) (h2:f2 en1=some (t2,en2)) (h:g t1 t2=some u):e2 g f1 f2 en=some (u,en2):=by
 unfold e2;rw [h1];show (f2 en1).bind _=_;rw [h2];show (g t1 t2).map _=_;rw [h];rfl
def oh {b:Bool} (h1:c1 en=some (b,en1)) (hb:b=true):bOr c1 c2 en=some (true,en1):=by unfold bOr; rw [h1,hb]; rfl
def kY {b:Bool} {r:Bool × En} (h1:c1 en=some (b,en1)) (hb:b=false) (h2:c2 en1=some r):bOr c1 c2 en=some r:=by unfold bOr; rw [h1,hb]; exact h2
def pW {b:Bool} {r:Bool × En} (h1:c1 en=some (b,en1)) (hb:b=true) (h2:c2 en1=some r):cu c1 c2 en=some r:=by unfold cu; rw [h1,hb]; exact h2
def pX {b:Bool} (h1:c1 en=some (b,en1)) (hb:b=false):cu c1 c2 en=some (false,en1):=by unfold cu; rw [h1,hb]; rfl
def jU {b:Bool} (h:f en=some (.bool b,en1)):tV f en=some (b,en1):=by unfold tV; rw [h]; rfl
def jV (h1:fa en=some (as,en1)) (h2:cU as en1=some ts) (h:F ts=some (t,outs)) (hw:wb as outs en1=en2):am F fa en=some (t,en2):=by
 subst hw;unfold am;rw [h1];show (cU as en1).bind _=_;rw [h2];show (F ts).map _=_;rw [h];rfl
def qS {g:List D->Option D} (h1:fa en=some (as,en1)) (h2:vals as=some ts) (h:g ts=some t):eN g fa en=some (t,en1):=by
 unfold eN;rw [h1];show (vals as).bind _=_;rw [h2];show (g ts).map _=_;rw [h];rfl
def gO {r:MA} (h1:f en=some (t,en1)) (h2:r en1=some (as,en2)):ad f r en=some (.inl t :: as,en2):=by
 unfold ad;rw [h1];show (r en1).map _=_;rw [h2];rfl
def om (h1:fa en=some (as,en1)) (h2:vals as=some ts) (h:ts.length<=sizeLine):aO fa en=some (.list ts,en1):=by
 unfold aO;rw [h1];show (vals as).bind _=_;rw [h2];exact if_pos h
def F9 (h1:fa en=some (as,en1)) (h2:vals as=some ts) (h:ts.length<=sizeLine):cR fa en=some (.tuple ts,en1):=by
 unfold cR;rw [h1];show (vals as).bind _=_;rw [h2];exact if_pos h
def sZ {us:List D} (h0:en[i]?=some (some (.list ts))) (h1:f en=some (t,en1)) (h2:en1[i]?=some (some (.list us))) (h:us.length < sizeLine) (he:en1.set i (some (.list (us++[t])))=en2):bG i f en=some (.none,en2):=by
 unfold bG;rw [h0];show (f en).bind _=_;rw [h1];show (match (en1[i]?).join with
  | some (.list ts)=>if ts.length < sizeLine then some (PyData.none,en1.set i (some (.list (ts++[t])))) else none
  | _=>none)=_
 rw [h2,<- he];exact if_pos h
def AF {fi:MI} {g:MG} {js:List (Option Nat)} {q:Bool} {us:List D} {ex:En} (h1:fi en=some (ts,en1)) (h2:lcF g c f ts [] (bU js en1)=some (us,ex)) (he:(if q then en1 else wbB js ex en1)=en2):eLC q fi g c f js en=some (.list us,en2):=by
 unfold eLC;rw [h1];show (lcF g c f ts [] (bU js en1)).map _=_;rw [h2,<- he];rfl
def Gb {fi:MI} {g:MG} (h1:fi en=some (ts,en1)) (h2:bW g b ts en1=some fl):cC fi g b en=some fl:=by
 unfold cC;rw [h1];exact h2
def be:100<=sizeLine:=by rw [sizeLine_eq]; decide
def dF (h:b (ts.map some++List.replicate n none)=some (.rt t en)):fnF n dps b ts=some (t,msk dps en):=by
 unfold fnF;rw [h];rfl
end
namespace Pen2
def eD:MS:=(aI (fq [((eC (.str "script")),(aa 0)),((eC (.str "at")),(aa 1)),((eC (.str "left")),(eC (.int 0)))]))
def bK:List D->Option (D × En):=fnF 0 [0,0] eD
def dJ:MS:=(aj (aq 2 (e2 bp (e2 bF (e2 aQ (e2 aQ (e2 bp (aa 0) (eC (.int 2147483629))) (e2 bF (eC (.int 40503)) (aa 1))) (eC (.int 24691))) (eC (.int 48271))) (eC (.int 2147483647))))
 (aj (aq 3 (e2 bp (e2 aQ (e2 aQ (e2 bF (aa 2) (aa 2)) (e2 bF (eC (.int 69621)) (aa 2))) (aa 1)) (eC (.int 2147483629))))
 (aI (e2 bZ (e2 bp (e2 aQ (e2 aQ (e2 bF (aa 3) (aa 3)) (e2 bF (eC (.int 16807)) (aa 3))) (e2 bF (eC (.int 31)) (aa 1))) (eC (.int 1073741789))) (eC (.int 64))))))
def bL:List D->Option (D × En):=fnF 2 [0,0] dJ
def ga:MS:=(aj (aq 2 (aP 0 (eC (.str "at"))))
 (aj (aq 3 (aP 0 (eC (.str "script"))))
 (aj (sIf (tV (e2 eqD (aP 0 (eC (.str "left"))) (eC (.int 0)))) (aj (bE 0 (eC (.str "at")) (e2 aQ (aa 2) (eC (.int 1))))
 (aj (aq 4 (eC (.int 0)))
 (aj (sIf (tV (e2 gtI (eN br (ad (aa 3) ah)) (eC (.int 0)))) (aq 4 (e2 ixA (aa 3) (e2 bp (aa 2) (eN br (ad (aa 3) ah))))) aW)
 (aj (sIf (bOr (tV (e2 geI (aa 2) (eN br (ad (aa 3) ah)))) (tV (e2 ltI (eN iR (ad (aa 4) ah)) (e2 lE (eC (.int 10)) (eC (.int 18)))))) (aI (e2 bp (am bL (ad (aa 4) (ad (aa 2) ah))) (aa 1))) aW)
 (bE 0 (eC (.str "left")) (eN iR (ad (aa 4) ah))))))) aW)
 (aj (aq 5 (e2 bp (aP 0 (eC (.str "left"))) (aa 1)))
 (aj (bE 0 (eC (.str "left")) (e2 bZ (aP 0 (eC (.str "left"))) (aa 1)))
 (aI (aa 5)))))))
def ak:List D->Option (D × En):=fnF 4 [1,0] ga
def penD (ns:List Int) (k l:Int):D:=.dict [(.str "script",.list (ns.map .int)),(.str "at",.int k),(.str "left",.int l)]
def nB {c k:Int} (h0:0<=k) (h1:k<=1000000000):∃ r,bL [.int c,.int k]=some (.int r,[none,none])/\0<=r:=by
 have a0:0<=c % 2147483629:=by omega
 have a1:c % 2147483629 < 2147483629:=by omega
 generalize g1:(c % 2147483629+40503 * k+24691) * 48271 % 2147483647=x;have x0:0<=x:=by omega
 have x1:x < 2147483647:=by omega
 generalize g2:(x * x+69621 * x+k) % 2147483629=y;have y0:0<=y:=by omega
 have y1:y < 2147483629:=by omega
 refine ⟨(y * y+16807 * y+31 * k) % 1073741789 / 64,?_,by omega⟩;have c1:CMul 40503 k:=.inl (by decide);have c2:CMul (c % 2147483629+40503 * k+24691) 48271:=.inr (by decide);have c3:CMul x x:=.inl (by constructor <;> omega);have c4:CMul 69621 x:=.inl (by decide);have c5:CMul y y:=.inl (by constructor <;> omega);have c6:CMul 16807 y:=.inl (by decide);have c7:CMul 31 k:=.inl (by decide);have c8:∀ z,fT z 64:=fun z=>by unfold fT; decide
 simp [bL,fnF,dJ,aj,aq,aI,e2,aa,eC,bp,bF,aQ,bZ,gq,c1,c2,c3,c4,c5,c6,c7,c8,g1,g2,msk]
def take_ok {ns:List Int} {k l m:Int} (h0:0<=k) (h1:k<=1000000000) (h2:0<=l) (h3:0 < m) (h4:m < 1073741824) :
  ∃ r k' l',ak [penD ns k l,.int m]=some (.int r,[some (penD ns k' l'),none])/\0<=r/\r < m/\k<=k'/\k'<=k+1/\0<=l':=by
 have cd:∀ z,fT z m:=fun z=>⟨h3,h4⟩;have cp:i6 10 18:=by unfold i6; decide
 have md:∀ z,bp (.int z) (.int m)=some (.int (z % m)):=fun z=>if_pos h3;have dv:∀ z,bZ (.int z) (.int m)=some (.int (z / m)):=fun z=>if_pos (cd z);have last:∀ (k' b:Int) (x y z:Option D),(aj (aq 5 (e2 bp (aP 0 (eC (.str "left"))) (aa 1)))
   (aj (bE 0 (eC (.str "left")) (e2 bZ (aP 0 (eC (.str "left"))) (aa 1)))
   (aI (aa 5)))) [some (penD ns k' b),some (.int m),x,y,z,none]=some (.rt (.int (b % m)) [some (penD ns k' (b / m)),some (.int m),x,y,z,some (.int (b % m))]):=by
  intro k' b x y z;refine aE (en1:=[some (penD ns k' b),some (.int m),x,y,z,some (.int (b % m))]) (bR (bf (t1:=.int b) (t2:=.int m) rfl rfl (md b)) rfl) (aE (en1:=[some (penD ns k' (b / m)),some (.int m),x,y,z,some (.int (b % m))]) ?_ rfl);unfold bE;rw [bf (t1:=.int b) (t2:=.int m) (f1:=aP 0 (eC (.str "left"))) (f2:=aa 1) (g:=bZ) (en:=[some (penD ns k' b),some (.int m),x,y,z,some (.int (b % m))]) (en1:=[some (penD ns k' b),some (.int m),x,y,z,some (.int (b % m))]) (en2:=[some (penD ns k' b),some (.int m),x,y,z,some (.int (b % m))]) rfl rfl (dv b)];rfl
 by_cases hl:l=0
 ·subst hl;by_cases hn:ns.length=0
  ·have hns:ns=[]:=za7.mp hn;subst hns;obtain ⟨r,e,hr⟩:=nB (c:=0) h0 h1;refine ⟨r % m,k+1,0,?_,zba _ (by omega),zbb _ h3,by omega,by omega,by omega⟩;refine dF (en:=[some (penD [] (k+1) 0),some (.int m),some (.int k),some (.list []),some (.int 0),none]) (aE rfl (aE rfl (iq (eQ (b:=true) rfl rfl (aE (en1:=[some (penD [] (k+1) 0),some (.int m),some (.int k),some (.list []),none,none]) rfl (aE rfl (aE rfl (iq (eQ (b:=true) (oh (b:=decide ((0:Int)<=k)) rfl (zaB h0)) rfl (kX (bf (en1:=[some (penD [] (k+1) 0),some (.int m),some (.int k),some (.list []),some (.int 0),none]) (t2:=.int m) (jV (as:=[.inl (.int 0),.inl (.int k)]) (en1:=[some (penD [] (k+1) 0),some (.int m),some (.int k),some (.list []),some (.int 0),none]) rfl rfl e rfl) rfl (md r))))))))))))
  ·obtain ⟨j,ej⟩:∃ j:Nat,ixN ns.length (k % ns.length)=some j/\j < ns.length:=by
    have q1:0<=k % (ns.length:Int):=zba _ (by omega);have q2:k % (ns.length:Int) < ns.length:=zbb _ (by omega);exact ⟨(k % (ns.length:Int)).toNat,by unfold ixN; rw [if_pos q1,if_pos q2],by omega⟩
   obtain ⟨c,ec⟩:∃ c,ns[j]?=some c:=⟨_,zak ej.2⟩;have at1:ixA (.list (ns.map .int)) (.int (k % ns.length))=some (.int c):=by
    show atI _ _=_;unfold atI;rw [zad,ej.1];show (ns.map PyData.int)[j]?=_;rw [zao,ec];rfl
   have hn1:(0:Int) < ns.length:=by omega
   have len:br [.list (ns.map .int)]=some (.int ns.length):=by show some (PyData.int (ns.map PyData.int).length)=_; rw [zad]
   have ml:bp (.int k) (.int ns.length)=some (.int (k % ns.length)):=if_pos hn1;obtain ⟨r,e,hr⟩:=nB (c:=c) h0 h1;obtain ⟨b,ab,b0⟩:∃ b,iR [.int c]=some (.int b)/\0<=b:=⟨if c < 0 then -c else c,rfl,by split <;> omega⟩;have pw:lE (.int 10) (.int 18)=some (.int 1000000000000000000):=by
    show (if i6 10 18 then some (PyData.int (10 ^ Int.toNat 18)) else none)=_;rw [if_pos cp]; rfl
   have ln:∀ (x y:Option D) (p:D),(eN br (ad (aa 3) ah)) [some p,some (.int m),x,some (.list (ns.map .int)),y,none]=some (.int ns.length,[some p,some (.int m),x,some (.list (ns.map .int)),y,none]):=fun x y p=>qS rfl rfl len;have pre:∀ (x y:Option D) {m2:MS} {fl:Fl},m2 [some (penD ns (k+1) 0),some (.int m),some (.int k),some (.list (ns.map .int)),some (.int c),none]=some fl->(aj (bE 0 (eC (.str "at")) (e2 aQ (aa 2) (eC (.int 1))))
 (aj (aq 4 (eC (.int 0)))
 (aj (sIf (tV (e2 gtI (eN br (ad (aa 3) ah)) (eC (.int 0)))) (aq 4 (e2 ixA (aa 3) (e2 bp (aa 2) (eN br (ad (aa 3) ah))))) aW) m2))) [some (penD ns k 0),some (.int m),some (.int k),some (.list (ns.map .int)),none,none]=some fl:=by
    intro x y m2 fl h;refine aE (en1:=[some (penD ns (k+1) 0),some (.int m),some (.int k),some (.list (ns.map .int)),none,none]) rfl (aE (en1:=[some (penD ns (k+1) 0),some (.int m),some (.int k),some (.list (ns.map .int)),some (.int 0),none]) rfl (aE ?_ h));exact eQ (jU (bf (ln _ _ _) rfl rfl)) (zaB hn1) (bR (bf rfl (bf rfl (ln _ _ _) ml) at1) rfl)
   by_cases hq:(ns.length:Int)<=k\/b < 1000000000000000000
   ·refine ⟨r % m,k+1,0,?_,zba _ (by omega),zbb _ h3,by omega,by omega,by omega⟩;refine dF (en:=[some (penD ns (k+1) 0),some (.int m),some (.int k),some (.list (ns.map .int)),some (.int c),none]) (aE rfl (aE rfl (iq (eQ (b:=true) rfl rfl (pre none none (iq (eQ (en1:=[some (penD ns (k+1) 0),some (.int m),some (.int k),some (.list (ns.map .int)),some (.int c),none]) (b:=true) ?_ rfl (kX (bf (en1:=[some (penD ns (k+1) 0),some (.int m),some (.int k),some (.list (ns.map .int)),some (.int c),none]) (t2:=.int m) (jV (as:=[.inl (.int c),.inl (.int k)]) (en1:=[some (penD ns (k+1) 0),some (.int m),some (.int k),some (.list (ns.map .int)),some (.int c),none]) rfl rfl e rfl) rfl (md r))))))))));by_cases hq2:(ns.length:Int)<=k
    ·exact oh (jU (bf rfl (ln _ _ _) rfl)) (zaB hq2)
    ·have hq3:=hq.resolve_left hq2;exact kY (jU (bf rfl (ln _ _ _) rfl)) (zaA hq2) (jU (bf (qS rfl rfl ab) (bf rfl rfl pw) (congrArg (fun q=>some (PyData.bool q)) (zaB hq3))))
   ·have hq1:¬ (ns.length:Int)<=k:=fun z=>hq (.inl z);have hq2:¬ b < 1000000000000000000:=fun z=>hq (.inr z);refine ⟨b % m,k+1,b / m,?_,zba _ (by omega),zbb _ h3,by omega,by omega,Int.ediv_nonneg b0 (by omega)⟩;refine dF (aE rfl (aE rfl (aE (en1:=[some (penD ns (k+1) b),some (.int m),some (.int k),some (.list (ns.map .int)),some (.int c),none]) (eQ (b:=true) rfl rfl (pre none none (aE (jv (kY (jU (bf rfl (ln _ _ _) rfl)) (zaA hq1) (jU (bf (qS rfl rfl ab) (bf rfl rfl pw) rfl))) (zaA hq2) rfl) ?_))) (last _ _ _ _ _))));unfold bE;rw [qS (fa:=ad (aa 4) ah) (en:=[some (penD ns (k+1) 0),some (.int m),some (.int k),some (.list (ns.map .int)),some (.int c),none]) (en1:=[some (penD ns (k+1) 0),some (.int m),some (.int k),some (.list (ns.map .int)),some (.int c),none]) rfl rfl ab];rfl
 ·refine ⟨l % m,k,l / m,?_,zba _ (by omega),zbb _ h3,Int.le_refl _,by omega,Int.ediv_nonneg h2 (by omega)⟩;exact dF (aE rfl (aE rfl (aE (jv (b:=l == 0) rfl (beq_eq_false_iff_ne.mpr hl) rfl) (last k l _ _ _))))
def ff {ns:List Int} {k l m:Int} {i:Nat} {en:En} {fa:MA} (hp:en[i]?=some (some (penD ns k l))) (hf:fa en=some ([.inr i,.inl (.int m)],en)) (h0:0<=k) (h1:k<=1000000000) (h2:0<=l) (h3:0 < m) (h4:m < 1073741824) :
  ∃ r k' l',am ak fa en=some (.int r,en.set i (some (penD ns k' l')))/\0<=r/\r < m/\k<=k'/\k'<=k+1/\0<=l':=by
 obtain ⟨r,k',l',e,q⟩:=take_ok (ns:=ns) h0 h1 h2 h3 h4;refine ⟨r,k',l',jV hf (ts:=[penD ns k l,.int m]) ?_ e rfl,q⟩;unfold cU;rw [hp];rfl
end Pen2
end L2
namespace L2
open PySem PySem.Spec PyProof.Rows
def jw (a b:Int):eqD (.int a) (.int b)=some (.bool (a == b)):=by
 show grd _ _=_;unfold grd;rw [if_pos ⟨rfl,rfl,Nat.zero_le _⟩];simp only [peq]
def ES (a b:Int):neD (.int a) (.int b)=some (.bool (!(a == b))):=by
 show grd _ _=_;unfold grd;rw [if_pos ⟨rfl,rfl,Nat.zero_le _⟩];simp only [peq]
structure Df (K:PySem.W.Frag) (x:Str) (st:Stmt) (f:Addr):Prop where
 a:PySem.W.nsIn K mainGlobals x=some (some (.ref f))
 l:∃ oc od kV dc pm an cd ct sl,K.lookup f=some ⟨oc,od,.func (PySem.W.fnOf x x (dk st) (ca st) (av st) .none kV dc pm an cd ct),sl⟩/\PySem.W.codeIn K cd x=true
 k:PySem.W.keepIn K (.ref f)=true
section
variable {P:Program} {w:World} {K:PySem.W.Frag} {mg:Str->Option Value} {base h:Heap} {k dr:Nat} {x:Str} {ps:List Str} {dps:List Nat} {f:Addr} {st:Stmt} {sp:Sp}
def Df.mk' {oc:Value} {od an:Option Addr} {sl:Array (Option Value)} {kV dc pm cd ct:Value} (a:PySem.W.nsIn K mainGlobals x=some (some (.ref f))) (l:K.lookup f=some ⟨oc,od,.func (PySem.W.fnOf x x (dk st) (ca st) (av st) .none kV dc pm an cd ct),sl⟩) (c:PySem.W.codeIn K cd x=true) (k:PySem.W.keepIn K (.ref f)=true):Df K x st f :=
 ⟨a,⟨oc,od,kV,dc,pm,an,cd,ct,sl,l,c⟩,k⟩
def Df.kn (d:Df K x st f) (X:K.In h) (G:h.Ns mainGlobals mg) (b:∀ (kV doc pm:Value) (an:Option Addr) (cdv ct:Value) (us:List Value),us.length=ps.length->bindArgs (PySem.W.fnOf x x (dk st) (ca st) (av st) .none kV doc pm an cdv ct) ⟨us,[]⟩=pure (ps.zip us))
  (ok:∀ fd,Fun K x x st f fd->FnOk P w K mg base CX0 k f fd ps sp):Kn P w K mg base k x ps sp:=by
 obtain ⟨_,_,_,_,_,_,_,_,_,l,c⟩:=d.l;have F:=nV (st:=st) l c d.k;exact ⟨_,_,ok _ F,PySem.W.mg_of X G d.a,d.k,F.binds b⟩
def Df.none (d:Df K x st f) (X:K.In h) (G:h.Ns mainGlobals mg) (b:∀ (kV doc pm:Value) (an:Option Addr) (cdv ct:Value) (us:List Value),us.length=ps.length->bindArgs (PySem.W.fnOf x x (dk st) (ca st) (av st) .none kV doc pm an cdv ct) ⟨us,[]⟩=pure (ps.zip us)) :
  Kn P w K mg base k x ps (spF K dps dr fun _=>Option.none):=by
 obtain ⟨_,_,_,_,_,_,_,_,_,l,c⟩:=d.l;have F:=nV (st:=st) l c d.k;exact Bm (PySem.W.mg_of X G d.a) d.k (F.binds b)
end
section
variable {X:Cx} {K:PySem.W.Frag} {p:Bool} {ds ds1 ds2 ds':List Nat} {d d1 d2:Nat} {a b e:Expr} {es:List Expr} {f f1 f2:ME} {fa:MA} {sh:Sh} {pos px:Pos} {x:Str} {J:Jd} {k dr:Nat} {ps:List Str} {dps:List Nat} {F:List D->Option (D × En)} {g:List D->Option D}
abbrev vck (X:Cx) (x:Str) (i:Nat) (n:NameKind):Prop:=(X.N[i]?,X.env.scope.names.lookup x,x == ("__debug__" : Str),x == ("__classdict__" : Str))=(some x,some n,false,false)
def fv (i:Nat) (h:vck X x i .local) (h0:ds[i]?=some 0):QE X (.Name x pos) (tF K p ds ds 0 (aa i)):=by
 simp only [vck,za1] at h;exact bC h.1 (.inl h.2.1) h0 h.2.2.1 h.2.2.2
def fvc (i:Nat) (h:vck X x i .cell) (h0:ds[i]?=some 0):QE X (.Name x pos) (tF K p ds ds 0 (aa i)):=by
 simp only [vck,za1] at h;exact bC h.1 (.inr (.inl h.2.1)) h0 h.2.2.1 h.2.2.2
def fsl (i:Nat) (hr:QA X es (tFA K p ds ds2 sh fa)) (h:vck X x i .local):QA X (.Name x pos :: es) (tFA K p ds ds2 (.inr i :: sh) (az i fa)):=by
 simp only [vck,za1] at h;exact kU h.1 (.inl h.2.1) hr h.2.2.1 h.2.2.2
def nX (i:Nat) (hr:QA X es (tFA K p ds ds2 sh fa)) (h:vck X x i .cell):QA X (.Name x pos :: es) (tFA K p ds ds2 (.inr i :: sh) (az i fa)):=by
 simp only [vck,za1] at h;exact kU h.1 (.inr (.inl h.2.1)) hr h.2.2.1 h.2.2.2
def fs0 (h:QE X e (tF K p ds ds' d f)):QE X e (tF K p ds ds' 0 f):=bX h (Nat.zero_le _)
def frt (he:QE X e (tF K false ds ds1 J.dr f)) (hd:leD J.dsr ds1=true):QSs X [.Return (some e) pos] (tFS K J ds ds' (aI f)):=aK (sL he hd)
abbrev cck (X:Cx) (x:Str) (e:Expr) (es:List Expr):Prop:=(X.env.kindOf x,x == ("__debug__" : Str),aD e,es.all aD)=(some .globalImplicit,false,true,true)
def fnn (G:Kn X.prog X.w X.K X.mg X.base k x ps (spF K dps dr F)) (hr:Room k X.A) (ha:QA X (e :: es) (tFA K p ds ds1 sh fa)) (h:cck X x e es) (h2:(gj sh,cr ds1 sh dps)=(true,true)):QE X (.Call (.Name x px) (e :: es) [] pos) (tF K p ds ds1 dr (am F fa)):=by
 simp only [cck,za1] at h h2;exact B4 G hr h.1 ha h2.1 h2.2 h.2.1 h.2.2.1 h.2.2.2
def fns (G:Kn X.prog X.w X.K X.mg X.base k x ps (spF K dps dr F)) (hr:Room k X.A) (ha:QA X (e :: es) (tFA K false ds ds1 sh fa)) (h:cck X x e es) (h2:cr ds1 sh dps=true):QE X (.Call (.Name x px) (e :: es) [] pos) (tF K false ds ds1 dr (am F fa)):=by
 simp only [cck,za1] at h;exact uU G hr h.1 ha h2 h.2.1 h.2.2.1 h.2.2.2
def fcb {id:String} (hc:CallR X (.builtin id) (rFn K g d)) (hm:X.mg x=none) (hv:bootBuiltins x=some (.builtin id)) (ha:QA X (e :: es) (tFA K p ds ds1 sh fa)) (h:cck X x e es) (h2:(bD 0 sh,x == ("__name__" : Str))=(true,false)):QE X (.Call (.Name x px) (e :: es) [] pos) (tF K p ds ds1 d (eN g fa)):=by
 simp only [cck,za1] at h h2;exact kT hc h.1 hm hv ha h2.1 (by simpa using h2.2) h.2.1 h.2.2.1 h.2.2.2
def fct {id:String} (hc:CallR X (.type id) (rFn K g d)) (hm:X.mg x=none) (hv:bootBuiltins x=some (.type id)) (ha:QA X (e :: es) (tFA K p ds ds1 sh fa)) (h:cck X x e es) (h2:(bD 0 sh,x == ("__name__" : Str))=(true,false)):QE X (.Call (.Name x px) (e :: es) [] pos) (tF K p ds ds1 d (eN g fa)):=by
 simp only [cck,za1] at h h2;exact oS hc h.1 hm hv ha h2.1 (by simpa using h2.2) h.2.1 h.2.2.1 h.2.2.2
def fln (hK:X.K=K) (hm:X.mg "len"=none) (ha:QA X (e :: es) (tFA K p ds ds1 sh fa)) (h:cck X "len" e es) (h2:bD 0 sh=true):QE X (.Call (.Name "len" px) (e :: es) [] pos) (tF K p ds ds1 3 (eN br fa)):=by
 simp only [cck,za1] at h;exact kT (Fx hK) h.1 hm (by decide +kernel) ha h2 (by decide) h.2.1 h.2.2.1 h.2.2.2
def fte (hK:X.K=K) (hu:X.A.units+64 < cLine) (ha:QE X a (tF K p ds ds1 d1 f1)) (hb:QE X b (tF K p ds1 ds2 d2 f2)):QT X (.Compare a [.Eq] [b] pos) (tFT K p ds ds2 (tV (e2 eqD f1 f2))):=ba (gL hK hu) ha hb (aX _)
def ftn (hK:X.K=K) (hu:X.A.units+64 < cLine) (ha:QE X a (tF K p ds ds1 d1 f1)) (hb:QE X b (tF K p ds1 ds2 d2 f2)):QT X (.Compare a [.NotEq] [b] pos) (tFT K p ds ds2 (tV (e2 neD f1 f2))):=ba (GR hK hu) ha hb (aX _)
def fxi {n:Int} {j:Nat} {q:Pos} (hK:X.K=K) (ha:QE X a (tF K p ds ds1 d1 f1)):QE X (.Subscript a (.Constant (.int n) j q) pos) (tF K p ds ds1 0 (e2 ixA f1 (eC (.int n)))):=eo (gK hK) ha ai fun _ _=>rfl
def aY (i:Nat) (ds':List Nat) {pos':Pos} (hN:X.N.Nodup) (he:QE X e (tF K false ds ds1 d f)) (h:(X.N[i]?,X.env.scope.names.lookup x,X.fn x)=(some x,some .local,true)) (h2:(ds1.set i d,decide (i < ds1.length),J.lk.contains i)=(ds',true,false)) (hs:swapsWith e (some (.Name x pos')) pos.line X.env=pure false):QS X (.Assign [.Name x pos'] e pos) (tFS K J ds ds' (aq i f)):=by
 simp only [za1,decide_eq_true_eq] at h h2;exact cN hN h.1 (.inl h.2.1) he h2.1 h2.2.1 (by simpa using h2.2.2) hs (.inl h.2.2)
end
section
variable {X:Cx} {pins:List (Addr × Obj)} {σ:St} {H:Hp} {s:Shared} {E:XK}
end
section
variable {X:Cx} {E:XK} {C:Addr} {bmB:List Value} {B newId initId:String} {x:Str} {np cpos pos:Pos} {a:Expr} {t:TA}
end
section
variable {X:Cx} {pins:List (Addr × Obj)} {σ:St} {H H1 H':Hp} {s s1 s':Shared} {E:XK} {D:Ends}
end
abbrev MX:=En->Option Unit
section
variable {X:Cx} {K:PySem.W.Frag} {p:Bool} {J:Jd} {ds ds0 ds1 ds' dps:List Nat} {H H' H'':Hp} {σ σ':St} {Dn:Ends} {R R':Nat->AS} {Ox F:AS} {en en':En} {m:MX} {Z:Hp->Prop} {f:MS} {cm:MT} {st:Stmt} {sts body els:List Stmt} {c:Expr} {pos np cpos p2:Pos} {E:XK}
end
section
variable {P:Program} {w:World} {K:PySem.W.Frag} {mg:Str->Option Value} {base:Heap}
end
section
variable {X:Cx} {K:PySem.W.Frag} {J:Jd} {ds ds1 ds' dps:List Nat} {sh:Sh} {fa:MA} {F:List D->Option (D × En)} {Rz:List D->Option Unit} {C C':Addr} {bmB:List Value} {newId newId':String} {fx x y:Str} {ps:List Str} {e:Expr} {es:List Expr} {xp fp cp ap yp hp np2 xp2 ap2 pos:Pos} {i j k:Nat}
end
section
variable {P:Program} {w:World} {K:PySem.W.Frag} {mg:Str->Option Value} {base h:Heap} {k dr:Nat} {x:Str} {ps:List Str} {dps:List Nat} {f:Addr} {st:Stmt} {sp:Sp}
end
section
variable {M:Model} {A:Around} {E:Value->Shared->Prop} {s:Shared}
end
section
variable {X:Cx} {pins:List (Addr × Obj)} {σ σ':St} {H:Hp} {s:Shared}
end
section
variable {X:Cx} {pins:List (Addr × Obj)} {σ:St} {H H1 H':Hp} {s s1 s':Shared} {E:XK}
end
abbrev MN:=En->Option Str
section
variable {X:Cx} {K:PySem.W.Frag} {p:Bool} {J:Jd} {ds ds0 ds1 ds' dps:List Nat} {H H' H'':Hp} {σ σ':St} {Dn:Ends} {R R':Nat->AS} {Ox F:AS} {en en':En} {m m1 m2:MN} {f:MS} {cm:MT} {st:Stmt} {sts body els:List Stmt} {c:Expr} {pos np cpos p2 fp cp ap xp:Pos} {E:XK} {cl:Str->Addr} {sh:Sh} {fa:MA} {Rz:List D->Option Str} {e:Expr} {es:List Expr} {fx x:Str} {ps:List Str} {k:Nat}
end
section
variable {K:PySem.W.Frag} {dps:List Nat} {cl:Str->Addr} {H:Hp} {Dn:Ends} {E:XK} {P:Program} {w:World} {mg:Str->Option Value} {base:Heap}
end
section
variable {fs ex:List Addr} {H H1 H':Hp} {h h1 h2:Heap} {a C:Addr} {o:HO} {P:Program} {w:World}
end
section
variable {X:Cx} {pins:List (Addr × Obj)} {σ:St} {H H1 H':Hp} {s s1 s':Shared} {E:XK} {D:Ends}
end
section
variable {K:PySem.W.Frag} {ds:List Nat} {Ox:AS} {H H':Hp} {σ:St} {en:En} {R:Nat->AS} {kp:List Nat}
end
section
variable {X:Cx} {pins:List (Addr × Obj)} {σ:St} {K:PySem.W.Frag} {p:Bool} {ds ds1 dps:List Nat} {m m1 m2:MN} {cm:MT} {body els:List Stmt} {c:Expr} {pos fp cp ap xp:Pos} {E:XK} {cl:Str->Addr} {sh:Sh} {fa:MA} {Rz:List D->Option Str} {e:Expr} {es:List Expr} {fx x:Str} {ps:List Str} {k:Nat}
end
section
variable {X:Cx} {K:PySem.W.Frag} {J:Jd} {ds ds1 ds':List Nat} {b hs:MS} {m:MN} {cl:Str->Addr} {kn:List Str} {kp:List Nat} {C':Addr} {bmB:List Value} {newId newId':String} {y n:Str} {j:Nat} {yp hp pos:Pos} {b₀:Stmt} {suite body:List Stmt}
end
end L2
namespace L2
open PySem PySem.Spec PyProof.Rows Builtin Builtin.ObjectAttr Builtin.Getset_descriptor
section
variable {prog:Program} {w:World} {A:Around} {E:Value->Shared->Prop} {s:Shared} {K:PySem.W.Frag} {a C:Addr}
end
section
variable {X:Cx} {K:PySem.W.Frag} {p:Bool} {ds ds1:List Nat} {d1:Nat} {e:Expr} {f:ME} {kn xs:List Str}
end
end L2
namespace L2
open PySem PySem.Spec PyProof.Rows
def sv {P:Program} {w:World} {k:Key} {v:Value} (h:(aZ P w).is k v=true):RelV (kV k) v:=by
 rcases bi h with ⟨i,t,e1,e2⟩ | ⟨x,t,e1,e2⟩
 ·have e:k=Sum.inl i:=e1;rw [e,e2];exact ⟨t,rfl⟩
 ·have e:k=Sum.inr x:=e1;rw [e,e2];exact ⟨t,rfl⟩
section
variable {X:Cx} {K:PySem.W.Frag} {O:AS} {H:Hp}
end
section
variable {X:Cx} {K:PySem.W.Frag} {p:Bool} {ds ds1:List Nat} {d1:Nat} {e:Expr} {f:ME} {kn xs:List Str}
end
def Falls (xs:Array Keyed) (k:Nat):Prop:=∀ i,i+1 < k->K xs (i+1) < K xs i
def Falls.nonInc {xs:Array Keyed} {k:Nat} (h:Falls xs k):NonInc xs k:=by
 have key:∀ d i,i+d < k->K xs (i+d)<=K xs i:=by
  intro d
  induction d with
  | zero=>intro i _; exact Int.le_refl _
  | succ d ih =>
   intro i hi;have a:=h (i+d) (by omega);have b:=ih i (by omega);rw [show i+(d+1)=i+d+1 by omega];omega
 intro i j hij hj
 have:=key (j - i) i (by omega);rw [show i+(j - i)=j by omega] at this;exact this
section
variable {prog:Program} {w:World} {A:Around} {E:Value->Shared->Prop} {s:Shared} {b₀:Array Keyed}
def Eo {st:SortSt} {Q:Option Nat->SortSt->Prop} (hk:IntKeys b₀) (h1:1<=b₀.size) (hB:SBase b₀ st) (hs:SortedTo (arrOf st) b₀.size) (q:Q (some b₀.size) st):wpS (model prog w) A E s (countRun' 0 b₀.size) Q st:=by
 rw [countRun0_eq];refine wpS_bind (wpS_ascLoop hk (zav _) (zav 1) h1 hB (fun i j a b=>hs i j a (by omega)) fun n n1 n2 _ e=>?_);have en:n=b₀.size:=by
  rcases e with e | e
  ·exact e
  ·by_cases z:n=b₀.size
   ·exact z
   ·have:=hs (n - 1) n (by omega) (by omega);omega
 subst en
 dsimp only
 rw [if_pos (by simp)];exact wpS_pure q
def t9 {st:SortSt} {n m:Nat} {Q:DescSt->SortSt->Prop} (hk:IntKeys b₀) (hm:m<=b₀.size) (h1:1<=n) (hn:n<=m) (hB:SBase b₀ st) (hf:Falls (arrOf st) m) (q:Q (none,m,0) st):wpS (model prog w) A E s (descLoop n m) Q st:=by
 unfold descLoop;refine wpS_forRange (I:=fun x c st'=>st'=st/\c=(none,x,0)) ?step ?fin ⟨rfl,rfl⟩
 case fin =>
  rintro c st' ⟨rfl,rfl⟩;rw [show max n m=m by omega];exact q
 case step =>
  rintro x c st' a b ⟨rfl,rfl⟩
  dsimp only
  refine wpS_bind (wpS_ltK hB hk (by omega) (by omega) ?_)
  have:=hf (x - 1) (by omega);rw [show x - 1+1=x by omega] at this;simp only [this,decide_true,if_true];rw [if_neg (by omega)];exact wpS_pure ⟨rfl,rfl⟩
def t8 {st:SortSt} {Q:Option Nat->SortSt->Prop} (hk:IntKeys b₀) (h1:2<=b₀.size) (hB:SBase b₀ st) (hf:Falls (arrOf st) b₀.size) (q:∀ st',SBase b₀ st'->SortedTo (arrOf st') b₀.size->Q (some b₀.size) st'):wpS (model prog w) A E s (countRun' 0 b₀.size) Q st:=by
 rw [countRun0_eq];refine wpS_bind (wpS_ascLoop hk (zav _) (zav 1) (by omega) hB (fun i j a b=>by rw [show i=j by omega]; exact Int.le_refl _) fun n n1 n2 so e=>?_);have en:n=1:=by
  by_cases z:n=1
  ·exact z
  ·have:=so 0 1 (by omega) (by omega)
   have:K (arrOf st) 1 < K (arrOf st) 0:=hf 0 (by omega);omega
 subst en
 dsimp only
 rw [if_neg (by simp; omega),if_neg (by omega)];unfold descPart;refine wpS_bind (wpS_lift (wpAny_rule ⟨rfl,?_⟩));refine wpS_bind (t9 hk (zav _) (by omega) h1 hB hf ?_)
 dsimp only
 rw [if_neg (by omega)];unfold tail3;have hz:b₀.size<=(arrOf st).size:=by rw [hB.size]; exact zav _
 refine wpS_bind (wpS_reverse ?_);have hB':SBase b₀ (setArr st (mirror (arrOf st) 0 b₀.size ((b₀.size - 0) / 2))):=hB.setArr (mirror_perm _ _ _ _);have hs':SortedTo (arrOf (setArr st (mirror (arrOf st) 0 b₀.size ((b₀.size - 0) / 2)))) b₀.size:=by
  intro i j a b;show K (mirror (arrOf st) 0 b₀.size ((b₀.size - 0) / 2)) i<=K (mirror (arrOf st) 0 b₀.size ((b₀.size - 0) / 2)) j;rw [K_mirror hz,K_mirror hz,if_pos (by omega),if_pos (by omega)];exact hf.nonInc _ _ (by omega) (by omega)
 refine wpS_bind (wpS_ascLoop hk (zav _) (by omega) (zav _) hB' hs' fun n n1 n2 _ _=>?_);have en:n=b₀.size:=by omega
 subst en;exact wpS_pure (q _ hB' hs')
def my:∀ f n r,minRun' f n r<=n+r
 | 0,n,r=>zav _
 | f+1,n,r=>by
  rw [minRun'_succ];split
  ·exact zav _
  ·have:=my f (n / 2) (max r (n % 2))
   have:max r (n % 2)<=r+1:=Nat.max_le.mpr ⟨by omega,by omega⟩;omega
def lh (xs:Array Keyed):Prop:=SortedTo xs xs.size\/Falls xs xs.size
def t7 {st:SortSt} {Q:Unit->SortSt->Prop} (hk:IntKeys b₀) (hB:SBase b₀ st) (ha:arrOf st=b₀) (h2:2<=b₀.size) (ho:lh b₀)
  (q:∀ st',(arrOf st').Perm b₀->failedOf st'=none->SortedTo (arrOf st') b₀.size->Q () st'):wpS (model prog w) A E s sortRuns' Q st:=by
 rw [sortRuns'_eq];refine wpS_bind (wpS_get ?_)
 dsimp only
 have ml:minRun' b₀.size b₀.size 0<=b₀.size:=my _ _ _;rw [hB.size];refine wpS_bind (wpS_mono (wpS_forRange
  (I:=fun x c st'=>(x=0/\c=(none,0)/\st'=st)\/(1<=x/\c=(none,b₀.size)/\SDone b₀ st'))
  (Q:=fun c st'=>c=(none,b₀.size)/\SDone b₀ st') ?step ?fin (.inl ⟨rfl,rfl,rfl⟩)) ?post)
 case fin =>
  rintro c st' (⟨z,_⟩ | ⟨_,a,b⟩)
  ·omega
  ·exact ⟨a,b⟩
 case step =>
  rintro x c st' _ _ (⟨rfl,rfl,rfl⟩ | ⟨_,rfl,D⟩)
  ·dsimp only
   rw [if_neg (by omega)];simp only [Nat.sub_zero,za4];have fin:∀ st2,SBase b₀ st2->SortedTo (arrOf st2) b₀.size->_:=fun st2 B2 s2=>B2.done s2;have go:wpS (model prog w) A E s (countRun' 0 b₀.size) (fun r st2=>r=some b₀.size/\SBase b₀ st2/\SortedTo (arrOf st2) b₀.size) st':=by
    rcases ho with ho | ho
    ·exact Eo hk (by omega) hB (by rw [ha]; exact ho) ⟨rfl,hB,by rw [ha]; exact ho⟩
    ·exact t8 hk h2 hB (by rw [ha]; exact ho) fun st2 B2 s2=>⟨rfl,B2,s2⟩
   refine wpS_bind (wpS_mono go ?_);rintro _ st2 ⟨rfl,B2,s2⟩
   dsimp only
   rw [if_neg (by omega)];refine wpS_bind (wpS_get ?_);have hb:(pendingOf st2).back?=none:=by rw [B2.pend]; rfl
   rw [hb]
   dsimp only
   exact wpS_bind (wpS_modify (wpS_pure (.inr ⟨by omega,rfl,fin st2 B2 s2⟩)))
  ·dsimp only
   rw [if_pos (zav _)];exact wpS_pure ⟨rfl,D⟩
 case post =>
  rintro c st' ⟨rfl,D⟩
  dsimp only
  refine wpS_bind (wpS_mono (wpS_forRange (I:=fun _ c st2=>st2=st'/\c=(none,())) (Q:=fun c st2=>st2=st'/\c=(none,())) ?_ (fun _ _ z=>z) ⟨rfl,rfl⟩) ?_)
  ·rintro x c st2 _ _ ⟨rfl,rfl⟩;refine wpS_bind (wpS_get ?_);rw [if_pos (by rw [D.2.2.1]; exact zav 1)];exact wpS_pure ⟨rfl,rfl⟩
  ·rintro c st2 ⟨rfl,rfl⟩;exact wpS_pure (q _ D.1 D.2.1 D.2.2.2)
end
section
variable {prog:Program} {w:World} {A:Around} {E:Value->Shared->Prop} {s:Shared}
def tX {a:Addr} {vs:List Value} {ns:List Int} {n:Nat} {P:Fin->Shared->Prop} (ho:s.heap.get? a=some (seqObj "list" vs.toArray n)) (hI:IntsAre vs ns) (hz:vs.length<=100000) (h1:vs.length < 64\/lh (pairsOf vs))
  (q:∀ (out:Array Value) (ns':List Int),IntsAre out.toList ns'->ns'.Perm ns->ns'.Pairwise (·<=·)->P (.done (.ret .none)) { s with heap:=sortedHeap s.heap a vs out }) :
  wpAny (model prog w) A (Builtin.«list.sort» ⟨[.ref a],[]⟩) P E s:=by
 rcases Nat.lt_or_ge vs.length 64 with lt | ge
 ·exact list_sort_tree ho hI lt q
 have o1:lh (pairsOf vs):=h1.resolve_left (by omega);obtain ⟨v₁,v₂,rest,rfl⟩:∃ x y r,vs=x :: y :: r:=by
  match vs,ge with
  | x :: y :: r,_=>exact ⟨x,y,r,rfl⟩
 rw [list_sort_plain];have la:a < s.heap.objs.size:=zal ho;refine zam (listItems_at ho rfl (zam (listUpdate_at ho rfl ?_)));obtain ⟨e1,ho1⟩:∃ e1,(s.heap.update a (Obj.mapSeq fun _=>#[])).get? a=some (seqObj "list" #[] e1):=⟨_,get?_update_seq ho (fun _=>#[])⟩;refine zam (seqEpoch_at ho1 rfl (zam (wpAny_newTuple (zam (wpAny_newList (wpAny_holding ?_))))));have ho6:(((s.heap.update a (Obj.mapSeq fun _=>#[])).push (seqObj "tuple" (v₁ :: v₂ :: rest).toArray 0)).push (seqObj "list" #[] 0)).get? a=some (seqObj "list" #[] e1):=by
  rw [Heap.get?_push_ne _ _ _ (zaw (by rw [size_push',Heap.size_update]; exact Nat.lt_succ_of_lt la)),Heap.get?_push_ne _ _ _ (zaw (by rw [Heap.size_update]; exact la)),ho1]
 show wpAny (model prog w) A _ P E { s with heap:=((s.heap.update a (Obj.mapSeq fun _=>#[])).push (seqObj "tuple" (v₁ :: v₂ :: rest).toArray 0)).push (seqObj "list" #[] 0) }
 dsimp only
 have two:¬ (v₁ :: v₂ :: rest).toArray.size < 2:=by simp
 rw [if_neg two,if_neg two,keyKind_ints hI];refine zam (zaT (zam (wpAny_mono (t7 (b₀:=pairsOf (v₁ :: v₂ :: rest)) (st:=SortSt.mk' oneType' ((v₁ :: v₂ :: rest).toArray.zip (v₁ :: v₂ :: rest).toArray) #[] 7 none)
   (Q:=fun _ st'=>(arrOf st').Perm (pairsOf (v₁ :: v₂ :: rest))/\failedOf st'=none/\SortedTo (arrOf st') (pairsOf (v₁ :: v₂ :: rest)).size)
   hI.intKeys ⟨Array.Perm.refl _,rfl,rfl,rfl⟩ rfl (by rw [pairsOf_size]; simp) o1 fun st' b1 b2 b3=>⟨b1,b2,b3⟩) ?_ fun _ _ e=>e)))
 rintro ⟨⟨⟩,st'⟩ s' ⟨rfl,hp,hf,hs⟩
 dsimp only
 refine zam (seqEpoch_at ho6 rfl ?_);have hsz:((arrOf st').map (·.2)).size<=100000:=by
  rw [Array.size_map,hp.size_eq,pairsOf_size];exact hz
 refine zam (listUpdate_at ho6 rfl ?_ (hsz2:=zau hsz (by rw [sizeLine_eq]; decide)));rw [hf];simp only [bne_self_eq_false,Bool.false_eq_true,if_false];obtain ⟨ns',c1,c2,c3⟩:=sorted_out hI hp hs;exact zaT (q _ ns' c1 c2 c3)
end
end L2
namespace L2
open PySem PySem.Spec PyProof.Rows Builtin
def pr:∀ {vs:List Value} {ns:List Int},IntsAre vs ns->∀ i,(match vs[i]? with | some v=>numOf v | none=>0)=ns.getD i 0
 | _,_,.nil,i=>rfl
 | _,_,.cons n t h,0=>rfl
 | _,_,.cons n t h,i+1=>by
  have:=pr h i;simpa using this
def jY {vs:List Value} {ns:List Int} (h:IntsAre vs ns) (i:Nat):K (pairsOf vs) i=ns.getD i 0:=by
 rw [<- pr h i];have e:(pairsOf vs)[i]?=vs[i]?.map fun v=>(v,v):=by
  rw [<- Array.getElem?_toList,pairsOf_toList];clear h
  induction vs generalizing i with
  | nil=>rfl
  | cons v r ih =>
   cases i with
   | zero=>rfl
   | succ i=>simpa using ih i
 unfold K;rw [e];cases vs[i]? <;> rfl
def oneB:List Int->Bool
 | []=>true
 | x :: r=>go x r true || go x r false
where go (x:Int):List Int->Bool->Bool
 | [],_=>true
 | y :: r,true=>decide (x<=y) && go y r true
 | y :: r,false=>decide (y < x) && go y r false
def AB:∀ {r:List Int} {x:Int},oneB.go x r true=true->∀ i,i+1 < (x :: r).length->(x :: r).getD i 0<=(x :: r).getD (i+1) 0
 | [],x,_,i,h=>by simp at h
 | y :: r,x,g,i,h=>by
  have g':(decide (x<=y) && oneB.go y r true)=true:=g;rw [Bool.and_eq_true,decide_eq_true_iff] at g';cases i with
  | zero=>exact g'.1
  | succ i=>exact AB g'.2 i (by simpa using h)
def pM:∀ {r:List Int} {x:Int},oneB.go x r false=true->∀ i,i+1 < (x :: r).length->(x :: r).getD (i+1) 0 < (x :: r).getD i 0
 | [],x,_,i,h=>by simp at h
 | y :: r,x,g,i,h=>by
  have g':(decide (y < x) && oneB.go y r false)=true:=g;rw [Bool.and_eq_true,decide_eq_true_iff] at g';cases i with
  | zero=>exact g'.1
  | succ i=>exact pM g'.2 i (by simpa using h)
def Ba {vs:List Value} {ns:List Int} (h:IntsAre vs ns) (o:oneB ns=true):lh (pairsOf vs):=by
 have hl:(pairsOf vs).size=ns.length:=by rw [pairsOf_size]; exact h.length
 cases ns with
 | nil =>
  refine .inl fun i j a b=>?_;rw [hl] at b;simp at b
 | cons x r =>
  have o':(oneB.go x r true || oneB.go x r false)=true:=o;rcases Bool.or_eq_true_iff.mp o' with o' | o'
  ·refine .inl ?_;have key:∀ d i,i+d < (x :: r).length->(x :: r).getD i 0<=(x :: r).getD (i+d) 0:=by
    intro d
    induction d with
    | zero=>intro i _; exact Int.le_refl _
    | succ d ih =>
     intro i hi;exact Int.le_trans (ih i (by omega)) (AB o' (i+d) (by omega))
   intro i j a b;rw [jY h,jY h]
   have:=key (j - i) i (by omega);rw [show i+(j - i)=j by omega] at this;exact this
  ·refine .inr fun i b=>?_;rw [jY h,jY h];exact pM o' i (by omega)
def eY (ns:List Int):Prop:=ns.length < 64\/(oneB ns=true/\ns.length<=5000)
instance (ns:List Int):Decidable (eY ns):=by unfold eY; exact inferInstance
section
variable {X:Cx} {K:PySem.W.Frag} {O:AS} {H:Hp}
def ji {O:AS} {H:Hp}:∀ l:List Int,Ows K O H (l.map .int) 0 (l.map V.int) NoA
 | []=>rfl
 | n :: r=>⟨.int n,r.map V.int,NoA,NoA,rfl,fun _ z=>z,fun _ z=>z,fun _ z=>z.elim,rfl,ji r⟩
end
end L2
namespace PySem
section
variable {prog:Program} {w:World} {A:Around} {R:Result->Shared->Prop} {I:Addr} {fp wr:List Addr} {G:Array GenState->Array GenState->Prop} {n:Nat} {P:Nat->Value->Prop} {St:Nat->Shared->Prop} {K:Type} [DecidableEq K] {knd:KeyKind prog w K}
end
end PySem
namespace L2
open PySem PySem.Spec PyProof.Rows
section
variable {X:Cx}
end
section
variable {X:Cx} {K:PySem.W.Frag} {O:AS} {H:Hp}
end
section
variable {X:Cx} {K:PySem.W.Frag} {p:Bool} {ds ds0 ds1 ds2:List Nat} {d d1:Nat} {k c o:Expr} {f fk fd:ME} {px apos cpos:Pos} {i:Nat} {σ:St} {H:Hp} {Q:VK}
end
section
variable {prog:Program} {w:World} {A:Around} {E:Value->Shared->Prop} {s:Shared}
end
section
variable {X:Cx} {K:PySem.W.Frag} {p:Bool} {ds ds1 ds2:List Nat} {d1 d2:Nat} {a b i o:Expr} {f1 f2:ME} {pos:Pos} {σ:St} {H:Hp} {Q:VK} {ty td:TE}
end
section
variable {X:Cx} {K:PySem.W.Frag} {p:Bool} {ds ds1 ds2:List Nat} {d1 d2:Nat} {a b k c:Expr} {f1 f2 fk fd:ME} {px apos cpos pos:Pos} {i:Nat}
end
section
variable {X:Cx} {K:PySem.W.Frag} {O:AS} {H:Hp}
end
section
variable {X:Cx} {K:PySem.W.Frag} {p:Bool} {ds:List Nat} {px py pos:Pos} {i:Nat} {σ:St} {H:Hp} {Q:VK}
end
section
variable {K:PySem.W.Frag} {J:Jd} {ds ds1:List Nat} {Ox Ox':AS} {H:Hp} {σ:St} {en:En} {R:Nat->AS} {i j:Nat} {m:MS} {D:Ends}
def EnvOk.hideS (e:EnvOk K ds Ox H σ en R) (i:Nat) {S:AS} (hS:∀ a,S a->R i a):EnvOk K ds (U S Ox) H σ (en.set i none) (fun s b=>s≠i/\R s b):=by
 have sub:∀ a,Own (fun s b=>s≠i/\R s b) (U S Ox) a->Own R Ox a:=fun a z=>by
  rcases z with ⟨s,z⟩ | z | z
  ·exact .inl ⟨s,z.2⟩
  ·exact .inl ⟨i,hS a z⟩
  ·exact .inr z
 refine ⟨fun s t h=>?_,fun s s' a z z'=>e.dj s s' a z.2 z'.2,fun s a z z2=>?_,fun a z=>e.dom a (sub a z),by rw [zaV]; exact e.l1,e.l2⟩
 ·by_cases hs:s=i
  ·subst hs;by_cases hl:s < en.length
   ·rw [zaP hl] at h;cases h
   ·rw [List.getElem?_eq_none (by rw [zaV]; omega)] at h;cases h
  ·rw [zaO (Ne.symm hs)] at h;obtain ⟨v,d,g1,g2,g3⟩:=e.at_ s t h;exact ⟨v,d,g1,g2,Ow.grow sub t (fun b z=>⟨hs,z⟩) g3⟩
 ·rcases z2 with z2 | z2
  ·exact z.1 (e.dj s i a z.2 (hS a z2))
  ·exact e.dx s a z.2 z2
end
section
variable {X:Cx} {K:PySem.W.Frag} {J:Jd} {ds ds1:List Nat} {i j:Nat} {m:MS} {body:List Stmt} {px py pos:Pos}
end
section
variable {X:Cx}
end
section
variable {X:Cx} {K:PySem.W.Frag} {p:Bool} {ds ds1:List Nat} {sh:List (Nat ⊕ Nat)} {fa:MA} {σ:St} {H:Hp} {Q:VK}
end
end L2
namespace L2
open PySem PySem.Spec PyProof.Rows Builtin
def eE:List D->Option D
 | [.list ts]=>(cL ts).bind fun ns=>grd (eY ns) (.list ((eF ns).map .int))
 | _=>none
section
variable {X:Cx} {K:PySem.W.Frag}
def nY (hK:X.K=K):CallR X (.builtin "sorted") (rFn K eE 1):=by
 subst hK;intro pins s σ H xs us Q I r ⟨O,as,t,oa,hd,hr,k⟩
 match as,hr with
 | [.list ts],hr =>
  obtain ⟨ns,h1,h2⟩:=zaa.mp hr;obtain ⟨cs,rfl⟩:=cj h2;obtain ⟨v,rfl,o⟩:=oa.one;obtain ⟨a,vs,rfl,fz,w⟩:=o.lst0;have e:=kf w h1;subst e;obtain ⟨u,rfl,ru⟩:=cF r;cases ru;obtain ⟨its,rv,pl,hz⟩:=I.list fz.sq;have hI:IntsAre its ns:=qQ rv;have hn:its.length=ns.length:=hI.length;have n5:ns.length<=5000:=by
   rcases cs with c | c
   ·omega
   ·exact c.2
  refine Calls.call_function_entry kind_sorted plain_sorted entry_sorted (args_sorted1 _) ?_;unfold Builtin.«sorted»;refine zam (m:=checkCount "sorted" 1 1 _) (zaT ?_);have l5:its.length<=sizeLine:=zau (show its.length<=5000 by omega) (by decide);refine zam (collect_list pl.isList ?_ l5);refine zam (wpAny_newList ?_ l5);obtain ⟨h1,e1⟩:∃ h1,h1=(s.heap.push (seqObj "list" #[] 0)).update s.heap.objs.size (Obj.mapSeq (·++its.toArray)):=⟨_,rfl⟩;rw [<- e1];have hk:∀ b o,s.heap.get? b=some o->h1.get? b=some o:=fun b o q=>by
   rw [e1,Heap.get?_update_ne _ _ _ _ (zaw (zal q))];exact zaf _ q
  have hoL:(h1.push (seqObj "list" its.toArray 0)).get? h1.objs.size=some (seqObj "list" its.toArray 0):=zan _ rfl;refine zam (wpAny_holding (wpAny_call_entry slot_list_sort ⟨_,hoL,rfl⟩ entry_list_sort (tX hoL hI (by omega) (cs.imp (fun c=>by omega) fun c=>Ba hI c.1) fun out ns' a1 a2 a3=>⟨_,rfl,?_⟩) (args_list_sort _)));refine zaT ⟨_,rfl,?_⟩;have e2:ns'=eF ns:=iy (a2.trans (bP ns).symm) a3 (b9 ns);subst e2;obtain ⟨e,he⟩:=sortedHeap_at (out:=out) hoL;have I1:=I.kept (t':=s.toks) hk;have k2:∀ b o,h1.get? b=some o->(sortedHeap (h1.push (seqObj "list" its.toArray 0)) h1.objs.size its out).get? b=some o:=fun b o q=>by
   have hb:=zal q;rw [sortedHeap_old (zaw hb) (by rw [size_push']; exact Nat.lt_succ_of_lt hb)];exact zaf _ q
  have hsl:(eF ns).length=ns.length:=(bP ns).length_eq;have hp:H h1.objs.size=none:=I1.hok.fresh (zav _);refine ⟨.ref _,_,I1.laid (a:=h1.objs.size) (o:=.lst ((eF ns).map V.int)) (t':=s.toks) k2 (zav _) ⟨by rw [zad,hsl]; omega,out.toList,e,m4 a1,?_⟩,rfl,k _ _ _ (bO hp hd (ji (K:=X.K) _)).1 (bO hp hd (ji (K:=X.K) _)).2⟩;rw [show out.toList.toArray=out from rfl];exact he
end
end L2
namespace L2
open PySem PySem.Spec PyProof.Rows PySem.Calls
def r8:typeLookup (.type "list_reverseiterator") "__len__"=pure none:=by rw [typeLookup_type,builtinLookup_eq_fast]; kernel_rfl
def ut:typeLookup (.type "list_reverseiterator") "__length_hint__"=pure (some (.builtin "list_reverseiterator.__length_hint__")):=by rw [typeLookup_type,builtinLookup_eq_fast]; kernel_rfl
section
variable {prog:Program} {w:World} {A:Around} {E:Value->Shared->Prop} {s:Shared}
def uG {r:Addr} {Q:Bool->Shared->Prop} (hT:s.TypeIs (.ref r) "list_reverseiterator") (h:Q false s):wpAny (model prog w) A (Builtin.List.listLengthHint (.ref r)) Q E s:=by
 unfold Builtin.List.listLengthHint;refine zam (wpAny_specialOf hT r8 ?_);show wpAny _ A (specialOf (Value.ref r) (Str.ofString "__length_hint__") >>= _) _ _ _;refine zam (wpAny_specialOf hT ut ?_);generalize hid:("list_reverseiterator.__length_hint__" : String)=id0
 wp_delta
 rw [show splitId id0=some ("list_reverseiterator", "__length_hint__") from by subst hid; decide +kernel];subst hid;refine zam (wpAny_isInstance (b:=true) hT (by rw [isSubtype_type]; kernel_rfl) ?_);exact zaT h
def uu {I l:Addr} {items:Array Value} {Q:Value->Shared->Prop} (hh:A.handled=none) (hne:l≠I) (h0:s.heap.IsRevIter I l ((items.size:Int) - 1)) (hl:s.heap.IsList l items) (hn:items.size<=sizeLine)
  (hQ:∀ h' tk acc c',(∀ b o,b≠I->s.heap.get? b=some o->h'.get? b=some o)->h'.get? s.heap.objs.size=some { cls:=.type "list",dict:=none,data:=.seq acc c',slots:=#[] }->ItemsOf (fun i v=>items[items.size - 1 - i]?=some v) acc items.size->Q (.ref s.heap.objs.size) { s with heap:=h',toks:=tk }) :
  wpAny (model prog w) A (call (.type "list") [.ref I]) Q E s:=by
 refine callType_codes (Q₁:=fun obj s₁=>obj=.ref s.heap.objs.size/\s₁={ s with heap:=s.heap.push { cls:=.type "list",data:=.seq #[] } }) PySem.F.called_list (PySem.F.typeCall_list_1 _) PySem.F.entry_list_init
  (code_list_new _ ⟨rfl,rfl⟩) fun obj s₁ h₁=>?_
 obtain ⟨rfl,rfl⟩:=h₁;obtain ⟨S,eS⟩:∃ S,S=s.heap.objs.size:=⟨_,rfl⟩;rw [<- eS] at hQ ⊢;have hS:(s.heap.push { cls:=.type "list",data:=.seq #[] }).get? S=some { cls:=.type "list",data:=.seq #[] }:=by rw [eS]; exact zan _ rfl
 have lI:S≠I:=by
  obtain ⟨o,ho,_⟩:=id h0;rw [eS];exact Nat.ne_of_gt (zal ho)
 have lL:S≠l:=by
  obtain ⟨o,ho,_⟩:=id hl;rw [eS];exact Nat.ne_of_gt (zal ho)
 have hSf:S ∉ [I,l]:=by simp only [zay,List.not_mem_nil,or_false,not_or]; exact ⟨lI,lL⟩
 refine ⟨⟨_,hS,rfl⟩,PySem.F.args_list_init_2 _ _,?_⟩;have h0':=h0.at (h':=s.heap.push { cls:=.type "list",data:=.seq #[] }) fun o e=>zaf _ e;have hl':=hl.at (h':=s.heap.push { cls:=.type "list",data:=.seq #[] }) fun o e=>zaf _ e;show wpAny _ _ (Builtin.List.listItems (.ref S) >>= fun old=>Builtin.List.listUpdate (.ref S) (fun _=>#[]) >>= fun _=>letGo old.toList.reverse >>= fun _=>Builtin.List.listExtendWith (.ref S) (.ref I) .none) _ _ _;refine zam (listItems_at hS rfl (zam (listUpdate_at hS rfl (zam (wpAny_letGo ?_)))));have hS₂:=Heap.get?_update_self (Obj.mapSeq (fun _=>(#[]:Array Value))) hS rfl;have oth:∀ b o,b≠S->s.heap.get? b=some o->((s.heap.push { cls:=.type "list",data:=.seq #[] }).update S (Obj.mapSeq fun _=>(#[]:Array Value))).get? b=some o:=fun b o hb e=>(Heap.get?_update_other _ _ (Ne.symm hb)).trans (zaf _ e);have hI2:=h0.at (h':=(s.heap.push { cls:=.type "list",data:=.seq #[] }).update S (Obj.mapSeq fun _=>(#[]:Array Value))) fun o e=>oth I o (Ne.symm lI) e;have hl2:=hl.at (h':=(s.heap.push { cls:=.type "list",data:=.seq #[] }).update S (Obj.mapSeq fun _=>(#[]:Array Value))) fun o e=>oth l o (Ne.symm lL) e;have W:=Walks.listRev (prog:=prog) (w:=w) (A:=A.in1.in1) hh I l hne items;unfold Builtin.List.listExtendWith;refine zam (wpAny_typeOf hI2.typeIs ?_);have q1:Builtin.List.listSameRef (.ref S) (.ref I)=false:=by simp [Builtin.List.listSameRef,lI]
 have q2:(Value.type "list_reverseiterator" == Value.type "list")=false:=by decide
 have q3:(Value.type "list_reverseiterator" == Value.type "tuple")=false:=by decide
 simp only [q1,q2,q3,Bool.or_false,Bool.false_eq_true,if_false];refine zam (wpAny_pyIter_revIter hI2 (zam (wpAny_holding (uG hI2.typeIs ?_))));rw [if_neg (by decide)];refine zaT ⟨plainId_quiet PySem.F.plain_extend_loop _,codeAny_extend_loopS W.toS hn S hSf .none items.size 0 _ #[] _ rfl (Nat.zero_le _) ⟨Nat.zero_le _,by simpa using hI2,hl2⟩ hS₂ (ItemsOf.nil _) fun s' acc c' hm hS' hacc=>?_⟩;rw [Moved.eq_with hm];refine ⟨rfl,hQ s'.heap s'.toks acc c' (fun b o hb e=>?_) hS' hacc⟩;have bS:b≠S:=by
  rw [eS];exact zaw (zal e)
 exact hm.heap b o (fun z=>by
  rcases zay.mp z with z | z
  ·exact bS z
  ·exact hb (zaH.mp z)) (oth b o bS e)
end
end L2
namespace L2
open PySem PySem.Spec PyProof.Rows
def Eg (K:PySem.W.Frag) (ta:TA):TE:=fun σ H Q=>ta σ H fun vs H1=>∃ a xs,vs=[.ref a]/\SqL K H1 a xs/\∀ l,H1 l=none->Q (.ref l) (upd H1 l (.lst xs.reverse))
section
variable {X:Cx}
def A5 {e:Expr} {ta:TA} {p1 p2 q1 pos:Pos} (hc:X.calm=true) (hgl:Gl X "list") (hml:X.mg "list"=none) (hg:Gl X "reversed") (hm:X.mg "reversed"=none) (ha:PA X [e] ta) (hs:starEach [e] X.env=[(false,eval e X.env)]:=by rfl) :
  PE X (.Call (.Name "list" p1) [.Call (.Name "reversed" p2) [e] [] q1] [] pos) (Eg X.K ta):=by
 intro pins s σ H Q I h;refine wpAny_Call_Name_kw (eK I hgl hml (show bootBuiltins "list"=some (.type "list") by decide +kernel) (PyProof.Rows.callWith_type1 ?_ rfl rfl) (by decide) (by decide));show wpAny _ _ (spliced ((false,eval (.Call (.Name "reversed" p2) [e] [] q1) X.env) :: backTo pos (starEach [] X.env))) _ _ s;refine Calls.spliced_cons (Call_ (eK I hg hm (show bootBuiltins "reversed"=some (.type "reversed") by decide +kernel) (PyProof.Rows.callWith_type1 (thn (ha q1 pins s σ H _ I h) fun us s1 ⟨vs,H1,I1,r1,q1⟩=>?_) hs rfl)));obtain ⟨a,xs,e,sq,q⟩:=q1;subst e;cases r1 with
 | cons r rr =>
  cases rr;cases r;obtain ⟨its,rv,pl,hz⟩:=I1.list sq;refine call_reversed_list pl.isList (Calls.spliced_nil ?_);have la:a < s1.heap.objs.size:=by
   obtain ⟨o,ho,_⟩:=pl.isList;exact zal ho
  have hl:its.length=xs.length:=rv.length.symm;refine uu (I:=s1.heap.objs.size) (l:=a) (items:=its.toArray) (I1.ok.hd hc) (zaw la) ⟨_,zan _ rfl,rfl,rfl⟩ (pl.isList.at fun o e=>zaf _ e) (by rw [zai,hl]; exact hz) fun h' tk acc c' hk ho hi=>?_;have rv':Vals xs.reverse acc.toList:=gS (by
   have h1:=hi.1;have h2:its.toArray.size=its.length:=zai ..;have h3:acc.toList.length=acc.size:=zaY;rw [List.length_reverse];omega) fun i x v e1 e2=>by
   have hv:=hi.2 i v (by simpa using e2);rw [zai,List.getElem?_toArray] at hv;have hix:i < xs.length:=by
    have:=(zah.mp e1).1
    rwa [List.length_reverse] at this
   rw [List.getElem?_reverse hix] at e1;rw [hl] at hv;obtain ⟨u,hu,ru⟩:=rv.get e1;rw [hu] at hv;cases hv;exact ru
  have hk':∀ b o,s1.heap.get? b=some o->h'.get? b=some o:=fun b o e=>hk b o (zaw (zal e)) (zaf _ e);have ea:(s1.heap.push (revObj a ((its.toArray.size:Int) - 1))).objs.size=s1.heap.objs.size+1:=size_push' ..;have hp:H1 (s1.heap.objs.size+1)=none:=I1.hok.fresh (Nat.le_succ _);rw [ea] at ho ⊢;exact ⟨.ref _,_,I1.laid (a:=s1.heap.objs.size+1) (o:=.lst xs.reverse) (t':=tk) hk' (Nat.le_succ _) ⟨by rw [List.length_reverse]; exact hz,acc.toList,c',rv',by simpa using ho⟩,rfl,q _ hp⟩
end
def mV:List D->Option D
 | [.list ts]=>some (.list ts.reverse)
 | _=>none
section
variable {X:Cx} {K:PySem.W.Frag} {p:Bool} {ds ds1:List Nat} {sh:List (Nat ⊕ Nat)} {fa:MA} {σ:St} {H:Hp} {Q:VK}
def FW (hs:bD 0 sh=true) (h:tF K p ds ds1 1 (eN mV fa) σ H Q):Eg K (tFA K p ds ds1 sh fa) σ H Q:=by
 obtain ⟨Ox,en,R,as,en1,e,h1,k⟩:=og hs h;refine ⟨Ox,en,R,as,en1,e,h1,fun vs H1 R1 F P o=>?_⟩;obtain ⟨O,ts,t,oa,hd,hg,k2⟩:=k vs H1 R1 F P o
 match ts,hg with
 | [.list ts],hg =>
  cases hg;obtain ⟨v,rfl,ov⟩:=oa.one;obtain ⟨a,vs,rfl,fz,w⟩:=ov.lst0;refine ⟨a,vs,rfl,fz.sq,fun l hl=>?_⟩;exact k2 _ _ _ (bO hl hd w.rev).1 (bO hl hd w.rev).2
def sU {e:Expr} {p1 p2 q1 pos:Pos} (hK:X.K=K) (hc:X.calm=true) (hgl:Gl X "list") (hml:X.mg "list"=none) (hg:Gl X "reversed") (hm:X.mg "reversed"=none) (ha:QA X [e] (tFA K p ds ds1 sh fa)) (hsh:bD 0 sh=true) (hs:aD e=true) :
  QE X (.Call (.Name "list" p1) [.Call (.Name "reversed" p2) [e] [] q1] [] pos) (tF K p ds ds1 1 (eN mV fa)):=by
 subst hK;exact ⟨(A5 hc hgl hml hg hm ha.h (aJ hs)).imp fun _ _ _=>FW hsh⟩
end
def scaD:D->Bool
 | .none=>true
 | .bool _=>true
 | .int _=>true
 | .str _=>true
 | _=>false
def eS3 (f:ME):ME:=fun en=>(f en).bind fun r=>if scaD r.1=true then some r else none
def Ow.scaD {K:PySem.W.Frag} {O O':AS} {H H':Hp} {t:D} {d d':Nat} {v:V} {F F':AS} (hs:L2.scaD t=true) (h:Ow K O H t d v F):Ow K O' H' t d' v F':=by
 cases t <;> first | exact h | cases hs
section
variable {X:Cx} {K:PySem.W.Frag} {p:Bool} {ds ds1:List Nat} {d:Nat} {f:ME} {e:Expr} {σ:St} {H:Hp} {Q:VK}
def HD (h:tF K p ds ds1 3 (eS3 f) σ H Q):tF K p ds ds1 d f σ H Q:=by
 obtain ⟨Ox,en,R,t,en',e,hf,k⟩:=h;unfold eS3 at hf;obtain ⟨⟨t1,en1⟩,h1,hf⟩:=zaa.mp hf;by_cases hs:scaD t1=true
 ·dsimp only at hf
  rw [if_pos hs] at hf;cases hf;exact ⟨Ox,en,R,_,_,e,h1,fun v H' R' F P o=>k v H' R' F P (o.scaD hs)⟩
 ·dsimp only at hf
  rw [if_neg hs] at hf;cases hf
def BZ (h:QE X e (tF K p ds ds1 d f)):QE X e (tF K p ds ds1 3 (eS3 f)):=⟨h.h.imp fun _ _ _=>HD⟩
end
def Gv (o:Obj) (ep:Nat):Prop:=∃ es,o.data=.dict es ep
def FzD (H:Hp) (d:Addr) (kvs:List (Key × V)) (ep:Nat):Prop:=∃ o,H d=some (.frz o (.dK kvs))/\Gv o ep
def Itk (d:Addr) (kvs:List (Key × V)) (ep:Nat):It :=
 ⟨fun i H=>FzD H d kvs ep/\i < kvs.length,fun i H x H'=>H'=H/\∃ kv,kvs[i]?=some kv/\x=kV kv.1,fun i H=>FzD H d kvs ep/\kvs.length<=i⟩
def Itm (d:Addr) (kvs:List (Key × V)) (ep:Nat):It :=
 ⟨fun i H=>FzD H d kvs ep/\i < kvs.length,fun i H y H'=>∃ p kv,y=.ref p/\H p=none/\H'=upd H p (.tup [kV kv.1,kv.2])/\kvs[i]?=some kv,fun i H=>FzD H d kvs ep/\kvs.length<=i⟩
section
variable {X:Cx} {pins:List (Addr × Obj)} {σ:St} {H:Hp} {s:Shared} {a:Addr} {kvs:List (Key × V)} {ep:Nat}
def im (I:Inv X pins σ H s) (h:FzD H a kvs ep):(a == sysModules)=false/\∃ vs,KV kvs vs/\s.heap.DictAt (aZ X.prog X.w) a vs ep:=by
 obtain ⟨o,h1,es0,h2⟩:=h;obtain ⟨g1,_,hd,vs,rel,o',es,ep',g2,g3,g4,g5⟩:=(show ObjOk X.prog X.w H s.heap a (.frz o (.dK kvs)) from I.hok a _ h1);rw [g1] at g2;cases g2;have e:=g4.symm.trans h2;injection e with e1 e2
 subst e2;exact ⟨hd,vs,rel,o,es,g1,g3,g4,g5⟩
def Inv.freeze (I:Inv X pins σ H s) (e:H a=some (.dK kvs)):∃ o ep,Gv o ep/\Inv X pins σ (upd H a (.frz o (.dK kvs))) s:=by
 obtain ⟨z,hd,vs,rel,o,es,ep,g1,g2,g3,g4⟩:=qU I.hok e;refine ⟨o,ep,⟨es,g3⟩,?_⟩;exact I.write (x:=a) (e:=a) (h':=s.heap) (t':=s.toks) (by rw [e]; exact True.intro) (.inl rfl) (fun b u _ q=>q) ⟨o,g1⟩ ⟨g1,z,hd,vs,rel,o,es,ep,g1,g2,g3,g4⟩
def Av {vs:List (Key × Value)} {i:Nat} (rel:KV kvs vs) (hi:i < kvs.length):∃ kv v,kvs[i]?=some kv/\vs[i]?=some (kv.1,v)/\RelV kv.2 v:=by
 induction rel generalizing i with
 | nil=>simp at hi
 | @cons p q r t hpq hr ih =>
  cases i with
  | zero=>exact ⟨p,q.2,rfl,by rw [hpq.1]; rfl,hpq.2⟩
  | succ j=>exact ih (by simpa using hi)
def rD {P:Program} {w:World} {K:PySem.W.Frag} {tg:Expr} (d it:Addr) (kvs:List (Key × V)) (ep:Nat):Turn P w K tg (Itk d kvs ep) [it] it (fun i h=>h.IsKeyIter it d i kvs.length ep) where
 mem:=by simp
 obj:=fun i h st b hb=>by
  have e:b=it:=by simpa using hb
  subst e;obtain ⟨o,e,c,d⟩:=st;exact ⟨o,e,fun v z=>by rw [d] at z; cases z⟩
 keep:=fun i h h' st k=>st.at fun o e=>k it (by simp) o e
 item:=by
  intro X hP hw hK hc i pins s σ H E I hf st hg;subst hP hw hK;obtain ⟨fz,hi⟩:=hg;obtain ⟨hd,vs,rel,dd⟩:=im I fz;obtain ⟨f0,f1,f2,f3,f4,f5⟩:=hf it (by simp);have hl:kvs.length=vs.length:=rel.length;obtain ⟨kv,x,hkv,hx,_⟩:=Av rel hi;rw [hl] at st;refine wpAny_pyNext_dict_item st dd hx fun key h' hkey hit' hs'=>?_;have I1:Inv X pins σ H { s with heap:=h' }:=I.turned (t':=s.toks) (fun b o hb e=>hs'.extBut b o hb e) f0 f1 f3 f4 f5;obtain ⟨o',e',c',d'⟩:=id hit';exact ⟨key,rfl,kQ (s:={ s with heap:=h' }) e' c' d' (by decide) ⟨kV kv.1,H,I1,sv hkey,⟨rfl,kv,hkv,rfl⟩,(by rw [hl]; exact hit'),fun b hb=>(hf b hb).1⟩⟩
 done:=by
  intro X hP hw hK hc i pins s σ H E I hf st hg;subst hP hw hK;obtain ⟨fz,hi⟩:=hg;obtain ⟨hd,vs,rel,dd⟩:=im I fz;obtain ⟨f0,f1,f2,f3,f4,f5⟩:=hf it (by simp);have hl:kvs.length=vs.length:=rel.length;rw [hl] at st;exact wpAny_pyNext_dict_end (I.ok.hd hc) st dd (List.getElem?_eq_none (by omega)) fun h' eb=>⟨rfl,I.turned (t':=s.toks) (fun b o hb e=>eb b o hb e) f0 f1 f3 f4 f5⟩
 self:=fun _ _ _ _ _ st h=>wpAny_pyIter_keyiter st h
def fg:entryFor table "dict_itemiterator.__iter__"=some Builtin.«dict_keyiterator.__iter__» :=
 entryFor_alias (id':="dict_keyiterator.__iter__") (by kernel_rfl) rfl (by decide +kernel) (by kernel_rfl)
def kC {P:Program} {w:World} {A:Around} {E:Value->Shared->Prop} {s:Shared} {it d:Addr} {i n ep:Nat} {ok ov:Value} {Q:Value->Shared->Prop} (hit:IsItemIter s.heap it d i n ep ok ov) (h:Q (.ref it) s):wpAny (model P w) A (pyIter (.ref it)) Q E s:=by
 have hT:s.TypeIs (.ref it) "dict_itemiterator":=⟨_,hit,rfl⟩;refine wpAny_pyIter_slot hT F.slot_dict_itemiterator_iter (wpAny_call_entry F.slot_dict_itemiterator_iter hT fg ?_ (F.args_dict_itemiterator_iter_1 _));show wpAny _ _ (ret (.ref it)) _ _ s;exact zaT ⟨_,rfl, "dict_itemiterator",_,hT,F.slot_dict_itemiterator_next.lookup,h⟩
def qm {P:Program} {w:World} {K:PySem.W.Frag} {elts:List Expr} {k:Nat} {tp:Pos} (d it:Addr) (kvs:List (Key × V)) (ep:Nat):Turn P w K (.Tuple elts k tp) (Itm d kvs ep) [it] it (fun i h=>∃ ok ov,IsItemIter h it d i kvs.length ep ok ov) where
 mem:=by simp
 obj:=fun i h st b hb=>by
  have e:b=it:=by simpa using hb
  subst e;obtain ⟨ok,ov,st⟩:=st;exact ⟨_,st,fun v z=>by
   have z':Data.fields _=Data.cell v:=z;cases z'⟩
 keep:=fun i h h' st k=>let ⟨ok,ov,e⟩:=st; ⟨ok,ov,k it (by simp) _ e⟩
 item:=by
  intro X hP hw hK hc i pins s σ H E I hf st hg;subst hP hw hK;obtain ⟨fz,hi⟩:=hg;obtain ⟨hd,vs,rel,dd⟩:=im I fz;have hl:kvs.length=vs.length:=rel.length;obtain ⟨kv,x,hkv,hx,rx⟩:=Av rel hi;obtain ⟨ok,ov,st⟩:=st;have iL:it < s.heap.objs.size:=zal st;rw [hl] at st;refine wpAny_pyNext_items_item st dd hx fun key h1 hkey ho1 ht1 hz1 hk1=>?_;refine ⟨_,rfl,wpAny_letOwnedTupleGo_items ho1 fun h2 he2 hs2=>?_⟩;have ht2:h2.get? s.heap.objs.size=some { cls:=.type "tuple",data:=.seq #[key,x] }:=(hs2.2 _ (Nat.ne_of_gt iL)).trans ht1;have I2:Inv X pins σ (upd H s.heap.objs.size (.tup [kV kv.1,kv.2])) { s with heap:=h2 }:=by
   refine I.turnedLaid (t':=s.toks) (fp:=[it]) hf (zav _) (fun b ob hb q=>?_) (fun b hb=>?_) ?_
   ·have h1:b≠it:=fun z=>hb (by simp [z]);exact (hs2.2 b h1).trans (hk1 b ob h1 q)
   ·have e:b=it:=by simpa using hb
    subst e;exact ⟨_,he2⟩
   ·refine ⟨(by show 2<=sizeLine; decide),[key,x],.cons (sv hkey) (.cons rx .nil),?_⟩;exact ⟨_,ht2,rfl,_,rfl,rfl⟩
  have fr:∀ b∈[it],upd H s.heap.objs.size (.tup [kV kv.1,kv.2]) b=none:=fun b hb=>by
   have e:b=it:=by simpa using hb
   subst e;rw [ay (zaw iL)];exact (hf b hb).1
  exact ⟨.ref s.heap.objs.size,_,I2,rfl,⟨_,kv,rfl,I.fresh,rfl,hkv⟩,⟨key,x,by rw [hl]; exact he2⟩,fr⟩
 done:=by
  intro X hP hw hK hc i pins s σ H E I hf st hg;subst hP hw hK;obtain ⟨fz,hi⟩:=hg;obtain ⟨hd,vs,rel,dd⟩:=im I fz;obtain ⟨f0,f1,f2,f3,f4,f5⟩:=hf it (by simp);have hl:kvs.length=vs.length:=rel.length;obtain ⟨ok,ov,st⟩:=st;rw [hl] at st;exact wpAny_pyNext_items_end (I.ok.hd hc) st dd (List.getElem?_eq_none (by omega)) fun h' eb=>⟨rfl,I.turned (t':=s.toks) (fun b o hb e=>eb b o hb e) f0 f1 f3 f4 f5⟩
 self:=fun _ _ _ _ _ st h=>let ⟨_,_,e⟩:=st; kC e h
end
section
variable {K:PySem.W.Frag} {O:AS} {H:Hp} {l:Addr} {ws:List (Key × V)} {ob:Obj}
def rO {a:Addr} {u:HO} (hl:H l=some (.dK ws)) (h:Rd H a u):Rd (upd H l (.frz ob (.dK ws))) a u:=by
 by_cases e:a=l
 ·subst e;rcases h with h | ⟨o,h⟩
  ·rw [hl] at h;cases h;exact .inr ⟨ob,aw⟩
  ·rw [hl] at h;cases h
 ·exact h.mv fun o q=>by rw [ay e]; exact q
def jk {a:Addr} {u:HO} (hl:H l=some (.dK ws)) (h:H a=some u) (n:u≠.dK ws):upd H l (.frz ob (.dK ws)) a=some u:=by
 rw [ay fun e=>?_]
 ·exact h
 ·subst e;rw [hl] at h;cases h;exact n rfl
mutual
theorem Ow.frzd (hl:H l=some (.dK ws)):∀ (t:D) {d:Nat} {v:V} {F:AS},¬ F l->Ow K O H t d v F->Ow K O (upd H l (.frz ob (.dK ws))) t d v F
 | .none,_,_,_,_,h=>h
 | .bool _,_,_,_,_,h=>h
 | .int _,_,_,_,_,h=>h
 | .str _,_,_,_,_,h=>h
 | .tuple ts,_,_,_,g,h=>by
  obtain ⟨a,vs,e,⟨h0,h1,h2⟩ | ⟨h0,h1,h2,F',hf,h3⟩⟩:=h
  ·exact ⟨a,vs,e,.inl ⟨h0,⟨jk hl h1.1 (fun z=>nomatch z),h1.2⟩,Ows.frzd hl ts g h2⟩⟩
  ·exact ⟨a,vs,e,.inr ⟨h0,jk hl h1 (fun z=>nomatch z),h2,F',hf,Ows.frzd hl ts (fun z=>g (hf _ z).1) h3⟩⟩
 | .list ts,_,_,_,g,h=>by
  obtain ⟨a,vs,e,⟨h0,h1,h2⟩ | ⟨h0,h1,h2,F',hf,h3⟩⟩:=h
  ·exact ⟨a,vs,e,.inl ⟨h0,h1.imp (fun h=>⟨rO hl h.1,h.2⟩) id,Ows.frzd hl ts g h2⟩⟩
  ·exact ⟨a,vs,e,.inr ⟨h0,jk hl h1 (fun z=>nomatch z),h2,F',hf,Ows.frzd hl ts (fun z=>g (hf _ z).1) h3⟩⟩
 | .dict ks,_,_,_,g,h=>by
  obtain ⟨a,vs,e,⟨h0,h1,hn,h2⟩ | ⟨h0,h1,h2,F',hf,h3⟩ | ⟨h0,ht⟩⟩:=h
  ·exact ⟨a,vs,e,.inl ⟨h0,rO hl h1,hn,Owd.frzd hl ks g h2⟩⟩
  ·refine ⟨a,vs,e,.inr (.inl ⟨h0,?_,h2,F',hf,Owd.frzd hl ks (fun z=>g (hf _ z).1) h3⟩)⟩;have na:a≠l:=fun z=>g (by rw [<- z]; exact h2);rw [ay na];exact h1
  ·refine ⟨a,vs,e,.inr (.inr ⟨h0,?_⟩)⟩;rcases ht with ⟨kk,b,h1,h2,h3⟩ | ⟨x,C,h1,h0',h2,h3⟩
   ·exact .inl ⟨kk,b,h1,jk hl h2 (fun z=>nomatch z),h3⟩
   ·exact .inr ⟨x,C,h1,h0',jk hl h2 (fun z=>nomatch z),h3⟩
theorem Ows.frzd (hl:H l=some (.dK ws)):∀ (ts:List D) {d:Nat} {vs:List V} {F:AS},¬ F l->Ows K O H ts d vs F->Ows K O (upd H l (.frz ob (.dK ws))) ts d vs F
 | [],_,_,_,_,h=>h
 | t :: ts,_,_,_,g,h=>by
  obtain ⟨v,r,F1,F2,e,h1,h2,h3,h4,h5⟩:=h;exact ⟨v,r,F1,F2,e,h1,h2,h3,Ow.frzd hl t (fun z=>g (h1 _ z)) h4,Ows.frzd hl ts (fun z=>g (h2 _ z)) h5⟩
theorem Owd.frzd (hl:H l=some (.dK ws)):∀ (ts:List (D × D)) {d:Nat} {vs:List (Key × V)} {F:AS},¬ F l->Owd K O H ts d vs F->Owd K O (upd H l (.frz ob (.dK ws))) ts d vs F
 | [],_,_,_,_,h=>h
 | (k,t) :: ts,_,_,_,g,h=>by
  obtain ⟨q,v,r,F1,F2,e,e2,h1,h2,h3,h4,h5⟩:=h;exact ⟨q,v,r,F1,F2,e,e2,h1,h2,h3,Ow.frzd hl t (fun z=>g (h1 _ z)) h4,Owd.frzd hl ts (fun z=>g (h2 _ z)) h5⟩
end
def Owd.get {ks:List (D × D)} {vs:List (Key × V)} {i:Nat} {k t:D} (h:Owd K O H ks 0 vs NoA) (hi:ks[i]?=some (k,t)):∃ q v,vs[i]?=some (q,v)/\k=kD q/\Ow K O H t 0 v NoA:=by
 induction ks generalizing vs i with
 | nil=>simp at hi
 | cons p ks ih =>
  obtain ⟨k',t'⟩:=p;obtain ⟨q,v,r,F1,F2,e,e2,h1,h2,h3,h4,h5⟩:=h;subst e;cases i with
  | zero =>
   cases hi;exact ⟨q,v,rfl,e2,Ow.any0 _ h4⟩
  | succ j =>
   obtain ⟨q',v',g1,g2,g3⟩:=ih (vs:=r) (i:=j) (Owd.any0 ks h5) (by simpa using hi);exact ⟨q',v',by simpa using g1,g2,g3⟩
end
def kys (ks:List (D × D)):List D:=ks.map fun q=>q.1
def prs (ks:List (D × D)):List D:=ks.map fun q=>.tuple [q.1,q.2]
section
variable {K:PySem.W.Frag} {O:AS} {H:Hp} {a:Addr} {ks:List (D × D)} {vs:List (Key × V)} {ep:Nat}
def iE {K:PySem.W.Frag} {O:AS} {H:Hp}:∀ {ks:List (D × D)} {vs:List (Key × V)} {d:Nat} {F:AS},Owd K O H ks d vs F->vs.length=ks.length
 | [],_,_,_,h=>by rw [show _=[] from h]; rfl
 | (k,t) :: ks,_,_,_,h=>by
  obtain ⟨q,v,r,F1,F2,e,_,_,_,_,_,h5⟩:=h;rw [e,zac,zac,iE h5]
def rz (hf:FzD H a vs ep) (hn:¬ O a) (ow:Owd K O H ks 0 vs NoA):gx K O H (Itk a vs ep) (kys ks):=fun i H1 O1 h1 h2 h3=>by
 have fz:FzD H1 a vs ep:=let ⟨o,e,q⟩:=hf; ⟨o,h1 a _ e hn,q⟩;have hl:=iE ow;refine ⟨fun t ht=>?_,fun hl2=>⟨fz,by unfold kys at hl2; rw [zad] at hl2; omega⟩⟩;unfold kys at ht;rw [zao] at ht;obtain ⟨⟨k,u⟩,h4,rfl⟩:=zab.mp ht;obtain ⟨q,v,h5,rfl,_⟩:=ow.get h4;refine ⟨⟨fz,(zah.mp h5).1⟩,fun x H2 ⟨e,kv,h6,h7⟩=>?_⟩;rw [h5] at h6;cases h6;subst e h7;refine ⟨fun _ _ q=>q,?_⟩;cases q <;> exact rfl
def qg (hf:FzD H a vs ep) (hn:¬ O a) (ow:Owd K O H ks 0 vs NoA):gx K O H (Itm a vs ep) (prs ks):=fun i H1 O1 h1 h2 h3=>by
 have fz:FzD H1 a vs ep:=let ⟨o,e,q⟩:=hf; ⟨o,h1 a _ e hn,q⟩;have hl:=iE ow;refine ⟨fun t ht=>?_,fun hl2=>⟨fz,by unfold prs at hl2; rw [zad] at hl2; omega⟩⟩;unfold prs at ht;rw [zao] at ht;obtain ⟨⟨k,u⟩,h4,rfl⟩:=zab.mp ht;obtain ⟨q,v,h5,rfl,ov⟩:=ow.get h4;refine ⟨⟨fz,(zah.mp h5).1⟩,fun x H2 ⟨p,kv,e,hp,h6,h7⟩=>?_⟩;rw [h5] at h7;cases h7;subst e h6;have g:=(bB (o:=.tup [kV q,v]) hp).1;refine ⟨g,p,[kV q,v],rfl,.inl ⟨rfl,⟨aw,fun z=>?_⟩,kV q,[v],NoA,NoA,rfl,fun _ z=>z,fun _ z=>z,fun _ z=>z.elim,?_,v,[],NoA,NoA,rfl,fun _ z=>z,fun _ z=>z,fun _ z=>z.elim,?_,rfl⟩⟩
 ·obtain ⟨o,q⟩:=h3 p z;rw [hp] at q;cases q
 ·cases q <;> exact rfl
 ·exact Ow.mv (G:=NoA) ⟨fun a o q _=>g a o q,fun a z=>.inl z⟩ u (fun _ z=>z) (Ow.mv (bm h1 h2) u (fun _ z=>z) ov)
end
def iDk (kp:Bool) (i:Nat):MI:=fun en=>match (en[i]?).join with
 | some (.dict ks)=>some (kys ks,if kp then en else en.set i none)
 | _=>none
def iDm (kp:Bool) (i:Nat):MI:=fun en=>match (en[i]?).join with
 | some (.dict ks)=>some (prs ks,if kp then en else en.set i none)
 | _=>none
section
variable {K:PySem.W.Frag} {ds ds1:List Nat} {Ox:AS} {H:Hp} {σ:St} {en:En} {R:Nat->AS} {i d:Nat} {ks:List (D × D)}
def nj (e:EnvOk K ds Ox H σ en R) (g0:en[i]?=some (some (.dict ks))) (hi:ds[i]?=some d) (hd:d≠0) (kp:Bool) (h1:(if kp then ds.set i 0 else ds)=ds1) :
  ∃ a vs,σ[i]?=some (some (.ref a))/\H a=some (.dK vs)/\∀ ob,Post K false ds1 Ox σ H en R (if kp then en else en.set i none) (upd H a (.frz ob (.dK vs))) (fun s b=>s≠i/\R s b) NoA/\¬ Own (fun s b=>s≠i/\R s b) Ox a/\Owd K (Own (fun s b=>s≠i/\R s b) Ox) (upd H a (.frz ob (.dK vs))) ks 0 vs NoA:=by
 obtain ⟨v,d0,a1,a2,a3⟩:=e.at_ i _ g0;rw [hi] at a2;cases a2;obtain ⟨a,vs,rfl,ha,Fa,F',hF,ow⟩:=a3.dict1 hd;have sub:∀ b,Own (fun s b=>s≠i/\R s b) Ox b->Own R Ox b:=fun b z=>z.imp (fun ⟨s,z⟩=>⟨s,z.2⟩) id;have nR:∀ b,R i b->¬ Own (fun s b=>s≠i/\R s b) Ox b:=fun b z z2=>by
  rcases z2 with ⟨s,z2⟩ | z2
  ·exact z2.1 (e.dj s i b z2.2 z)
  ·exact e.dx i b z z2
 refine ⟨a,vs,a1,ha,fun ob=>?_⟩;have dm:∀ b o,H b=some o->∃ o',upd H a (.frz ob (.dK vs)) b=some o':=fun b o q=>by
  by_cases z:b=a
  ·subst z; exact ⟨_,aw⟩
  ·exact ⟨o,by rw [ay z]; exact q⟩
 have oi:Ow K (Own (fun s b=>s≠i/\R s b) Ox) H (.dict ks) 0 (.ref a) NoA:=Ow.fz sub nR a3;have oi2:=Ow.frzd (ob:=ob) ha (.dict ks) (fun z=>z) oi;have ow2:Owd K (Own (fun s b=>s≠i/\R s b) Ox) (upd H a (.frz ob (.dK vs))) ks 0 vs NoA:=by
  obtain ⟨p,ws,ep,⟨_,q1,_,q2⟩ | ⟨z,_⟩ | ⟨_,⟨_,_,_,q1,_⟩ | ⟨_,_,_,_,q1,_⟩⟩⟩:=oi2
  ·cases ep;rcases q1 with q1 | ⟨o,q1⟩
   ·rw [aw] at q1; cases q1
   ·rw [aw] at q1;cases q1;exact q2
  ·exact absurd rfl z
  ·cases ep; rw [aw] at q1; cases q1
  ·cases ep; rw [aw] at q1; cases q1
 have il:i < ds.length:=(zah.mp hi).1;have env:EnvOk K ds1 (U NoA Ox) (upd H a (.frz ob (.dK vs))) σ (if kp then en else en.set i none) (fun s b=>s≠i/\R s b):=by
  rw [gy];refine ⟨fun s t h=>?_,fun s s' b z z'=>e.dj s s' b z.2 z'.2,fun s b z=>e.dx s b z.2,fun b z=>?_,?_,?_⟩
  ·by_cases hs:s=i
   ·subst hs;cases kp with
    | true =>
     have h':en[s]?=some (some t):=h;rw [g0] at h';cases h';refine ⟨.ref a,0,a1,?_,?_⟩
     ·rw [<- h1];exact zaP il
     ·exact Ow.any0 _ oi2
    | false =>
     have h':(en.set s none)[s]?=some (some t):=h;by_cases hl:s < en.length
     ·rw [zaP hl] at h';cases h'
     ·rw [List.getElem?_eq_none (by rw [zaV]; omega)] at h';cases h'
   ·have h':en[s]?=some (some t):=by
     cases kp with
     | true=>exact h
     | false =>
      have h2:(en.set i none)[s]?=some (some t):=h;rw [zaO (Ne.symm hs)] at h2;exact h2
    obtain ⟨v,d',g1,g2,g3⟩:=e.at_ s t h';refine ⟨v,d',g1,?_,Ow.frzd ha t (fun z=>hs (e.dj s i a z.2 Fa)) (Ow.grow sub t (fun b z=>⟨hs,z⟩) g3)⟩;rw [<- h1];cases kp with
    | true =>
     show (ds.set i 0)[s]?=_;rw [zaO (Ne.symm hs)];exact g2
    | false=>exact g2
  ·obtain ⟨o,q⟩:=e.dom b (sub b z);exact dm b o q
  ·cases kp with
   | true=>exact e.l1
   | false=>show (en.set i none).length=_; rw [zaV]; exact e.l1
  ·rw [<- h1];cases kp with
   | true=>show (ds.set i 0).length=_; rw [zaV]; exact e.l2
   | false=>exact e.l2
 refine ⟨⟨env,fun _ z=>z.elim,fun b o q n=>?_,fun b z=>?_,dm,fun z=>nomatch z⟩,nR a Fa,ow2⟩
 ·have na:b≠a:=fun z=>n i (by rw [z]; exact Fa);rw [ay na];exact q
 ·rcases z with z | ⟨s,z⟩
  ·exact z.elim
  ·exact .inl ⟨s,z.2⟩
end
section
variable {X:Cx} {K:PySem.W.Frag} {ds ds1:List Nat} {i d:Nat} {tg:Expr} {px apos cpos:Pos}
def BU {x:Str} (kp:Bool) (hK:X.K=K) (hN:X.N[i]?=some x) (hv:Vis X.env.scope x) (hi:ds[i]?=some d) (hd:d≠0) (h1:(if kp then ds.set i 0 else ds)=ds1) (hdb:(x == ("__debug__" : Str))=false) (hcd:(x == ("__classdict__" : Str))=false) :
  QI X tg (.Name x px) (tFI K false ds ds1 (iDk kp i)):=by
 subst hK;refine ⟨?_⟩;intro pins s σ H R I h;obtain ⟨Ox,en,Rg,ts,en',e,hf,k⟩:=h;unfold iDk at hf;split at hf
 case h_2=>cases hf
 next ks g0 =>
 cases hf;obtain ⟨a,vs,a1,ha,kk⟩:=nj e (aM g0) hi hd kp h1;refine thn (bQ hN hv hdb hcd pins s σ H (fun v H1=>v=.ref a/\H1=H) I ⟨.ref a,a1,rfl,rfl⟩) fun v s1 ⟨y,H1,I1,r1,ey,eH⟩=>?_;subst ey eH;cases r1;obtain ⟨o,ep,he,I2⟩:=I1.freeze ha;obtain ⟨P,nO,ow⟩:=kk o;have fz:FzD (upd H1 a (.frz o (.dK vs))) a vs ep:=⟨o,aw,he⟩;obtain ⟨hds,us,rel,dd⟩:=im I2 fz;refine wpAny_pyIter_dict hds dd ?_;refine ⟨s1.heap.objs.size,[s1.heap.objs.size],_,_,_,rfl,I2.kept (t':=s1.toks) fun b o e=>zaf _ e,rD a _ vs ep,⟨_,zan _ rfl,rfl,by rw [rel.length]; rfl⟩,fun b hb=>?_,k _ _ _ P (rz fz nO ow)⟩;have e:b=s1.heap.objs.size:=by simpa using hb
 subst e;exact I2.fpOk (zav _) (I2.hok.fresh (zav _))
def BT {x:Str} {elts:List Expr} {k:Nat} {tp:Pos} (kp:Bool) (hK:X.K=K) (hN:X.N[i]?=some x) (hv:Vis X.env.scope x) (hi:ds[i]?=some d) (hd:d≠0) (h1:(if kp then ds.set i 0 else ds)=ds1)
  (hb:attributeBase (.Name x px) "items" X.env (eval (.Name x px) X.env)=eval (.Name x px) X.env) (hline:(apos.endLine == cpos.line)=true) (hdb:(x == ("__debug__" : Str))=false) (hcd:(x == ("__classdict__" : Str))=false) :
  QI X (.Tuple elts k tp) (.Call (.Attribute (.Name x px) "items" apos) [] [] cpos) (tFI K false ds ds1 (iDm kp i)):=by
 subst hK;refine ⟨?_⟩;intro pins s σ H R I h;obtain ⟨Ox,en,Rg,ts,en',e,hf,k⟩:=h;unfold iDm at hf;split at hf
 case h_2=>cases hf
 next ks g0 =>
 cases hf;obtain ⟨a,vs,a1,ha,kk⟩:=nj e (aM g0) hi hd kp h1;refine wpAny_Call_method (T:="dict") (id:="dict.items") hb rfl hline F.plainAttrs_dict F.slot_dict_items F.type_dict_items (thn (bQ hN hv hdb hcd pins s σ H (fun v H1=>v=.ref a/\H1=H) I ⟨.ref a,a1,rfl,rfl⟩) fun v s1 ⟨y,H1,I1,r1,ey,eH⟩=>?_);subst ey eH;cases r1;obtain ⟨o,ep,he,I2⟩:=I1.freeze ha;obtain ⟨P,nO,ow⟩:=kk o;have fz:FzD (upd H1 a (.frz o (.dK vs))) a vs ep:=⟨o,aw,he⟩;obtain ⟨hds,us,rel,dd⟩:=im I2 fz;refine ⟨dd.dictOf.typeIs,dd.dictOf.mapOf.noDict,?_⟩;show wpAny _ _ (callWith cpos (.builtin "dict.items") [.ref a] [] []) _ _ s1;refine method_meetsIn F.slot_dict_items F.entry_dict_items rfl (PySem.evalArgs_none ⟨rfl,dd.dictOf.typeIs,F.args_dict_items_1 _,_,meets_dict_items (aZ X.prog X.w) a hds,⟨us,dd.dictOf⟩,?_⟩);refine wpAny_pyIter_items (knd:=aZ X.prog X.w) (d:=a) (kvs:=us) (ep:=ep) ⟨_,zan _ rfl,rfl,rfl⟩ (dd.push _) ?_;have I3:Inv X pins σ (upd H1 a (.frz o (.dK vs))) { s1 with heap:=s1.heap.push { cls:=.type "dict_items",data:=.fields #[.ref a] } }:=I2.kept (t':=s1.toks) fun b o e=>zaf _ e;refine ⟨_,[(s1.heap.push { cls:=.type "dict_items",data:=.fields #[.ref a] }).objs.size],_,_,_,rfl,I3.kept (t':=s1.toks) fun b o e=>zaf _ e,qm a _ vs ep,⟨.none,.none,?_⟩,fun b hb=>?_,k _ _ _ P (qg fz nO ow)⟩
 ·rw [rel.length];exact zan _ rfl
 ·have e:b=(s1.heap.push { cls:=.type "dict_items",data:=.fields #[.ref a] }).objs.size:=by simpa using hb
  subst e;exact I3.fpOk (zav _) (I3.hok.fresh (zav _))
end
def kP (fa:MA):MI:=fun en=>(fa en).bind fun r=>match r.1 with
 | [.inl (.list ts),.inl (.list us)]=>some (cH ts us,r.2)
 | [.inl (.tuple ts),.inl (.tuple us)]=>some (cH ts us,r.2)
 | _=>none
section
variable {X:Cx} {K:PySem.W.Frag} {p:Bool} {ds ds1:List Nat} {sh:Sh} {fa:MA}
def sR {l m:Expr} {px pos:Pos} {elts:List Expr} {k:Nat} {tp:Pos} (hK:X.K=K) (hg:Gl X "zip") (hm:X.mg "zip"=none) (ha:QA X [l,m] (tFA K p ds ds1 sh fa)) (hs:aD l=true) (hs2:aD m=true) :
  QI X (.Tuple elts k tp) (.Call (.Name "zip" px) [l,m] [] pos) (tFI K p ds ds1 (kP fa)):=⟨by
 intro pins s σ H R I ⟨Ox,en,Rg,ts,en',e,hf,k⟩;unfold kP at hf;obtain ⟨⟨as,en1⟩,h1,hf⟩:=zaa.mp hf
 dsimp only at hf
 split at hf
 ·exact Fz hK hg hm ha.h hs hs2 pins s σ H R I ⟨Ox,en,Rg,ts,en',e,by unfold qR; rw [h1]; exact hf,k⟩
 ·exact BQ hK hg hm ha.h hs hs2 pins s σ H R I ⟨Ox,en,Rg,ts,en',e,by unfold nU; rw [h1]; exact hf,k⟩
 ·cases hf⟩
end
def fm:D->Bool
 | .list ts=>ts.all scaD
 | _=>false
def eUp (f:ME):ME:=fun en=>(f en).bind fun r=>if fm r.1=true then some r else none
section
variable {K:PySem.W.Frag} {O O':AS} {H H':Hp}
def lH {d d':Nat}:∀ {ts:List D} {vs:List V} {F F':AS},ts.all scaD=true->Ows K O H ts d vs F->Ows K O' H' ts d' vs F'
 | [],_,_,_,_,h=>h
 | t :: ts,_,_,_,hs,h=>by
  obtain ⟨v,r,F1,F2,e,h1,h2,h3,h4,h5⟩:=h;rw [List.all_cons,Bool.and_eq_true] at hs;exact ⟨v,r,NoA,NoA,e,fun _ z=>z.elim,fun _ z=>z.elim,fun _ z=>z.elim,h4.scaD hs.1,lH hs.2 h5⟩
def pq {t:D} {d d':Nat} {v:V} {F:AS} (g:∀ b o,H b=some o->H' b=some o) (hf:fm t=true) (hd:d≠0) (hd':d'≠0) (h:Ow K O H t d v F):Ow K O' H' t d' v F:=by
 cases t with
 | list ts =>
  obtain ⟨a,vs,e,⟨z,_⟩ | ⟨_,h1,h2,F',hF,h3⟩⟩:=h
  ·exact absurd z hd
  ·exact ⟨a,vs,e,.inr ⟨hd',g _ _ h1,h2,NoA,fun _ z=>z.elim,lH hf h3⟩⟩
 | _=>cases hf
def nr (g:∀ b o,H b=some o->H' b=some o) {d d':Nat} (hd:d≠0) (hd':d'≠0):∀ {ls:List D} {ws:List V} {F:AS},ls.all fm=true->Ows K O H ls d ws F->Ows K O' H' ls d' ws F
 | [],_,_,_,h=>h
 | t :: ts,_,_,hs,h=>by
  obtain ⟨v,r,F1,F2,e,h1,h2,h3,h4,h5⟩:=h;rw [List.all_cons,Bool.and_eq_true] at hs;exact ⟨v,r,F1,F2,e,h1,h2,h3,pq g hs.1 hd hd' h4,nr g hd hd' hs.2 h5⟩
def Ows.sub {d:Nat} {ts:List D} {vs:List V} {F F':AS} (hf:∀ b,F b->F' b) (h:Ows K O H ts d vs F):Ows K O H ts d vs F':=Ows.grow (fun _ z=>z) ts hf h
def Ows.dropF {d:Nat}:∀ {ts:List D} {vs:List V} {F:AS} (n:Nat),Ows K O H ts d vs F->Ows K O H (ts.drop n) d (vs.drop n) F
 | _,_,_,0,h=>h
 | [],_,_,n+1,h=>by rw [show _=[] from h]; rfl
 | t :: ts,_,_,n+1,h=>by
  obtain ⟨v,r,F1,F2,e,h1,h2,h3,h4,h5⟩:=h;subst e;exact (h5.dropF n).sub h2
def Ows.takeF {d:Nat}:∀ {ts:List D} {vs:List V} {F:AS} (n:Nat),Ows K O H ts d vs F->Ows K O H (ts.take n) d (vs.take n) F
 | _,_,_,0,h=>rfl
 | [],_,_,n+1,h=>by rw [show _=[] from h]; rfl
 | t :: ts,_,_,n+1,h=>by
  obtain ⟨v,r,F1,F2,e,h1,h2,h3,h4,h5⟩:=h;subst e;exact ⟨v,r.take n,F1,F2,rfl,h1,h2,h3,h4,h5.takeF n⟩
def A9 {d:Nat} {ts:List D} {vs:List V} {F:AS} {lo hi:Option Int} (h:Ows K O H ts d vs F):Ows K O H (fP ts lo hi) d (jB vs lo hi) F:=by
 unfold fP jB;rw [h.len];exact (h.dropF _).takeF _
end
section
variable {X:Cx} {K:PySem.W.Frag} {p:Bool} {ds ds0 ds1:List Nat} {d i j:Nat} {f fk:ME} {e:Expr} {σ:St} {H:Hp} {Q:VK} {sx:Str}
def HC (h:tF K p ds ds1 3 (eUp f) σ H Q):tF K p ds ds1 1 f σ H Q:=by
 obtain ⟨Ox,en,R,t,en',e,hf,k⟩:=h;unfold eUp at hf;obtain ⟨⟨t1,en1⟩,h1,hf⟩:=zaa.mp hf;by_cases hs:fm t1=true
 ·dsimp only at hf
  rw [if_pos hs] at hf;cases hf;exact ⟨Ox,en,R,_,_,e,h1,fun v H' R' F P o=>k v H' R' F P (pq (fun _ _ q=>q) hs (by decide) (by decide) o)⟩
 ·dsimp only at hf
  rw [if_neg hs] at hf;cases hf
def BY (h:QE X e (tF K p ds ds1 1 f)):QE X e (tF K p ds ds1 3 (eUp f)):=⟨h.h.imp fun _ _ _=>HC⟩
def jW (sx:Str) (i j:Nat) (fk:ME):ME:=fun en=>match (en[i]?).join,(en[j]?).join with
 | some (.list r),some (.list ls)=>(fk en).bind fun q=>match q.1 with
  | .int n=>if (r.all scaD && ls.all fm)=true then some (.tuple [.str sx,.list r,.list (fP ls none (some n))],(en.set i none).set j none) else none
  | _=>none
 | _,_=>none
def FU {dj:Nat} (hi:ds[i]?=some 1) (hj:ds[j]?=some dj) (hz:dj≠0) (hz2:dn dj≠0) (hij:i≠j) (hd:leD ds0 ds=true) (h:tF K false ds ds 3 (jW sx i j fk) σ H Q) :
  tU (gF (tC (.str sx)) (gF (eZ i) (gF (tSl (uc K) (eZ j) oZ (Ag (tF K true ds0 ds0 3 fk))) m6))) σ H Q:=by
 obtain ⟨Ox,en,R,t,en',e,hf,k⟩:=h;unfold jW at hf;split at hf
 case h_2=>cases hf
 next r ls g1 g2 =>
 obtain ⟨⟨tk,en1⟩,h1,hf⟩:=zaa.mp hf
 dsimp only at hf
 split at hf
 case h_2=>cases hf
 next n =>
 by_cases hfl:(r.all scaD && ls.all fm)=true
 case neg=>rw [if_neg hfl] at hf; cases hf
 rw [if_pos hfl] at hf;cases hf;rw [Bool.and_eq_true] at hfl;obtain ⟨v1,d1,a1,a2,a3⟩:=e.at_ i _ (aM g1);rw [hi] at a2;cases a2;obtain ⟨v2,d2,b1,b2,b3⟩:=e.at_ j _ (aM g2);rw [hj] at b2;cases b2;obtain ⟨ar,rs,rfl,⟨z,_⟩ | ⟨_,har,Far,Fr,hFr,owr⟩⟩:=a3
 ·cases z
 obtain ⟨al,ws,rfl,⟨z,_⟩ | ⟨_,hal,Fal,Fl,hFl,owl⟩⟩:=b3
 ·exact absurd z hz
 refine ⟨.ref ar,a1,.ref al,b1,?_⟩;refine Hh hd ⟨Ox,en,R,.int n,en1,e,h1,fun v H' R' F P o=>?_⟩;have q3:=(P.pure rfl).2.2;have ev:v=.int n:=o;refine ⟨n,ev,al,ws,rfl,.inl (.inl (q3 _ _ hal)),fun p hp=>?_⟩;refine ⟨by show 3<=sizeLine; decide,fun p2 hp2=>?_⟩;have hpp:p2≠p:=fun z=>by rw [z,aw] at hp2; cases hp2
 have hp2':H' p2=none:=by rw [ay hpp] at hp2; exact hp2
 have nn:∀ b,H' b=none->H b=none:=fun b z=>by
  cases q:H b with
  | none=>rfl
  | some o=>rw [q3 _ _ q] at z; cases z
 have gr:∀ b o,H b=some o->upd (upd H' p (.lst (jB ws none (some n)))) p2 (.tup [.str sx,.ref ar,.ref p]) b=some o:=fun b o q=>by
  have q':=q3 _ _ q;rw [ay (bb q' hp2'),ay (bb q' hp)];exact q'
 have ex:∀ s b,R s b->∃ o,H b=some o:=fun s b z=>e.dom b (.inl ⟨s,z⟩);have np:∀ s b,R s b->b≠p/\b≠p2:=fun s b z=>by
  obtain ⟨o,q⟩:=ex s b z;exact ⟨bb (q3 _ _ q) hp,bb (q3 _ _ q) hp2'⟩
 have e2:=((e.hideS i (S:=R i) fun _ z=>z).hideS j (S:=Fl) fun b z=>⟨Ne.symm hij,(hFl b z).1⟩).grow gr (F:=fun b=>b=p\/b=p2) fun b z=>by
  rcases z with rfl | rfl
  ·exact ⟨nn _ hp,by rw [ay (Ne.symm hpp),aw]; exact ⟨_,rfl⟩⟩
  ·exact ⟨nn _ hp2',_,aw⟩
 have eq:U (fun b=>b=p\/b=p2) (U Fl (U (R i) Ox))=U (fun b=>(b=p\/b=p2)\/Fl b\/R i b) Ox:=dq fun a=>by
  unfold U;constructor
  ·rintro (z | z | z | z)
   ·exact .inl (.inl z)
   ·exact .inl (.inr (.inl z))
   ·exact .inl (.inr (.inr z))
   ·exact .inr z
  ·rintro ((z | z | z) | z)
   ·exact .inl z
   ·exact .inr (.inl z)
   ·exact .inr (.inr (.inl z))
   ·exact .inr (.inr (.inr z))
 rw [eq] at e2;refine k _ _ _ (fun b=>(b=p\/b=p2)\/Fl b\/R i b) ⟨e2,fun b z z2=>?_,fun b o q _=>gr b o q,fun b z=>?_,fun b o q=>⟨o,gr b o q⟩,fun z=>nomatch z⟩ ?_
 ·obtain ⟨o,q⟩:=e.dom b (.inr z2);rcases z with (rfl | rfl) | z | z
  ·rw [nn _ hp] at q; cases q
  ·rw [nn _ hp2'] at q; cases q
  ·exact e.dx j b (hFl b z).1 z2
  ·exact e.dx i b z z2
 ·rcases z with ((rfl | rfl) | z | z) | ⟨s,z⟩
  ·exact .inr (nn _ hp)
  ·exact .inr (nn _ hp2')
  ·exact .inl ⟨j,(hFl b z).1⟩
  ·exact .inl ⟨i,z⟩
  ·exact .inl ⟨s,z.2.2⟩
 ·refine ⟨p2,_,rfl,.inr ⟨by decide,aw,.inl (.inr rfl),fun b=>b=p\/Fl b\/R i b,fun b z=>?_,?_⟩⟩
  ·rcases z with rfl | z | z
   ·exact ⟨.inl (.inl rfl),Ne.symm hpp⟩
   ·exact ⟨.inr (.inl z),(np j b (hFl b z).1).2⟩
   ·exact ⟨.inr (.inr z),(np i b z).2⟩
  ·refine ⟨.str sx,_,NoA,fun b=>b=p\/Fl b\/R i b,rfl,fun _ z=>z.elim,fun _ z=>z,fun _ z=>z.elim,rfl,.ref ar,_,R i,fun b=>b=p\/Fl b,rfl,fun _ z=>.inr (.inr z),fun _ z=>z.imp id .inl,fun b z z2=>?_,?_,.ref p,[],fun b=>b=p\/Fl b,NoA,rfl,fun _ z=>z,fun _ z=>z.elim,fun _ _ z=>z,?_,rfl⟩
   ·rcases z2 with z2 | z2
    ·exact (np i b z).1 z2
    ·exact hij (e.dj i j b z (hFl b z2).1)
   ·exact ⟨ar,rs,rfl,.inr ⟨by decide,gr _ _ har,Far,NoA,fun _ z=>z.elim,lH hfl.1 owr⟩⟩
   ·refine ⟨p,jB ws none (some n),rfl,.inr ⟨by decide,by rw [ay (Ne.symm hpp)]; exact aw,.inl rfl,Fl,fun b z=>⟨.inr z,(np j b (hFl b z).1).1⟩,?_⟩⟩;have w:=nr gr (d:=dn dj) (d':=3) (O':=Own (fun s b=>s≠j/\s≠i/\R s b) (U (fun b=>(b=p\/b=p2)\/Fl b\/R i b) Ox)) hz2 (by decide) hfl.2 owl;exact A9 w
def sT {x y:Str} {k:Expr} {x1} {js:Nat} {p0 px py p2 p3 pos:Pos} (hK:X.K=K) (hN:X.N[i]?=some x) (hv:Vis X.env.scope x) (hN2:X.N[j]?=some y) (hv2:Vis X.env.scope y) {dj:Nat} (hi:ds[i]?=some 1) (hj:ds[j]?=some dj) (hz:dj≠0) (hz2:dn dj≠0) (hij:i≠j) (hd:leD ds0 ds=true) (hk:QE X k (tF K true ds0 ds0 3 fk))
  (h1:(x == ("__debug__" : Str))=false) (h2:(x == ("__classdict__" : Str))=false) (h3:(y == ("__debug__" : Str))=false) (h4:(y == ("__classdict__" : Str))=false) :
  QE X (.Tuple [.Constant (.str sx) js p0,.Name x px,.Subscript (.Name y py) (.Slice none (some k) none p2) p3] x1 pos) (tF K false ds ds 3 (jW sx i j fk)) :=
 ⟨(no (bM pe_str (bM (bQ hN hv h1 h2) (bM (uh (Hy hK) (bQ hN2 hv2 h3 h4) A2 (A1 hk.h)) pa_nil (aJ rfl)) (aJ rfl)) (aJ rfl))).imp fun _ _ _=>FU hi hj hz hz2 hij hd⟩
end
end L2
namespace PySem
section
variable {prog:Program} {w:World} {A:Around} {E:Value->Shared->Prop} {s:Shared}
end
end PySem
namespace PySem
open PySem.SeqAt
section
variable {prog:Program} {w:World} {A:Around} {E:Value->Shared->Prop} {s:Shared}
end
end PySem
namespace L2
open PySem PySem.Spec PyProof.Rows
section
variable {X:Cx} {K:PySem.W.Frag}
end
def tFk (K:PySem.W.Frag) (ds ds':List Nat) (d i:Nat) (f:En->Option (D × En)):TE:=fun σ H Q =>
 ∃ Ox en R t en',EnvOk K ds Ox H σ en R/\f en=some (t,en')/\∀ v H' R' F,Post K false ds' Ox σ H en R en' H' R' F->(∀ a o,H a=some o->R i a->H' a=some o)->en'[i]?=en[i]?->Ow K (Own R' (U F Ox)) H' t d v F->Q v H'
section
variable {K:PySem.W.Frag} {p p1 p2:Bool} {ds ds0 ds1 ds2 ds' dps:List Nat} {Ox Ox' O O':AS} {H H':Hp} {σ:St} {en en' en1 en2:En} {R R':Nat->AS} {d d' d1 d2 dr:Nat} {t t1 t2:D} {Q:VK} {f f1 f2:ME} {fa:MA} {sh:Sh} {QA:List V->Hp->Prop} {i:Nat}
def Hf {E:XK} {F:List D->Option (D × En)} {i0:Nat} (hi0:∀ j:Nat,sh[j]?≠some (.inr i0)) (hc:cr ds1 sh dps=true) (h:tFk K ds ds1 dr i0 (am F fa) σ H Q):mT (spF K dps dr F) [] E (tFA K true ds ds1 sh fa) σ H Q:=by
 obtain ⟨Ox,en,R,t,en',e,hf,k⟩:=h;unfold am at hf;obtain ⟨⟨as,en1⟩,h1,hf⟩:=zaa.mp hf;obtain ⟨ts,h2,hf⟩:=zaa.mp hf;obtain ⟨⟨r,outs⟩,h3,hf⟩:=zab.mp hf;cases hf;refine ⟨Ox,en,R,as,en1,e,h1,fun vs H1 R1 F0 P o=>?_⟩;obtain ⟨cl,c1,c2,c3⟩:=gR hc;obtain ⟨Rp,a1,a2,a3,a4⟩:=o.parts;obtain ⟨tl,tg⟩:=iQ h2;have ol:=o.len;have asl:∀ (j i:Nat),as[j]?=some (.inr i)->sh[j]?=some (.inr i):=fun j i z=>(a2 j i z).choose_spec.2.1;have asr:∀ (j i:Nat),sh[j]?=some (.inr i)->as[j]?=some (.inr i):=fun j i z=>by
  cases q:as[j]? with
  | none =>
   have e1:as.length<=j:=List.getElem?_eq_none_iff.mp q;have e2:j < sh.length:=(zah.mp z).1
   have:=o.shl;omega
  | some x =>
   cases x with
   | inl t =>
    obtain ⟨_,_,_,e2,_⟩:=a1 j t q;rw [z] at e2; cases e2
   | inr i' =>
    have:=asl j i' q;rw [z] at this;cases this;rfl
 let Rq:Nat->AS:=fun j=>match sh[j]? with | some (.inr i)=>R1 i | _=>Rp j
 have rq1:∀ j i:Nat,sh[j]?=some (.inr i)->Rq j=R1 i:=fun j i z=>by show (match sh[j]? with | some (.inr i)=>R1 i | _=>Rp j)=R1 i; rw [z]
 have rq2:∀ j:Nat,(∀ i:Nat,sh[j]?≠some (.inr i))->Rq j=Rp j:=fun j z=>by
  show (match sh[j]? with | some (.inr i)=>R1 i | _=>Rp j)=Rp j;split
  ·next i q=>exact absurd q (z i)
  ·rfl
 have rqc:∀ (j:Nat) a,Rq j a->(∃ i,sh[j]?=some (.inr i)/\R1 i a)\/Rp j a:=fun j a z=>by
  by_cases q:∃ i,sh[j]?=some (.inr i)
  ·obtain ⟨i,q⟩:=q;rw [rq1 j i q] at z;exact .inl ⟨i,q,z⟩
  ·rw [rq2 j fun i z=>q ⟨i,z⟩] at z;exact .inr z
 let Oxp:AS:=fun a=>Ox a\/∃ i,R1 i a/\∀ j:Nat,sh[j]?≠some (.inr i);have sub:∀ a,Own Rq Oxp a->Own R1 (U F0 Ox) a:=fun a z=>by
  rcases z with ⟨j,z⟩ | z | ⟨i,z,_⟩
  ·rcases rqc j a z with ⟨i,_,z⟩ | z
   ·exact .inl ⟨i,z⟩
   ·exact .inr (.inl (a3 j a z))
  ·exact .inr (.inr z)
  ·exact .inl ⟨i,z⟩
 have ec:EnvOk K dps Oxp H1 (vs.map some) (ts.map some) Rq:=by
  refine ⟨fun j u hu=>?_,fun j j' a z z'=>?_,fun j a z z2=>?_,fun a z=>P.env.dom a (sub a z),by rw [zad,zad,tl,ol],?_⟩
  ·rw [zao] at hu;obtain ⟨u',hu,eu⟩:=zab.mp hu;cases eu;rcases tg j u hu with q | ⟨i,q,qe⟩
   ·obtain ⟨v,d,b1,b2,b3⟩:=a1 j u q;refine ⟨v,d,by rw [zao,b1]; rfl,c1 j d b2,?_⟩;rw [rq2 j fun i z=>by rw [b2] at z; cases z];exact Ow.grow sub u (fun _ z=>z) b3
   ·obtain ⟨v,b1,b2,b3⟩:=a2 j i q;obtain ⟨v',d,g1,g2,g3⟩:=P.env.at_ i u qe;rw [b3] at g1;cases g1;obtain ⟨qd,q1,q2⟩:=c2 j i b2;rw [g2] at q2;cases q2;refine ⟨v,d,by rw [zao,b1]; rfl,q1,?_⟩;rw [rq1 j i b2];exact Ow.grow sub u (fun _ z=>z) g3
  ·rcases rqc j a z with ⟨i,q,z⟩ | z <;> rcases rqc j' a z' with ⟨i',q',z'⟩ | z'
   ·have:=P.env.dj i i' a z z';subst this;exact c3 j j' i q q'
   ·exact absurd (.inl (a3 j' a z')) (P.env.dx i a z)
   ·exact absurd (.inl (a3 j a z)) (P.env.dx i' a z')
   ·exact a4 j j' a z z'
  ·rcases rqc j a z with ⟨i,q,z⟩ | z
   ·rcases z2 with z2 | ⟨i',z2,n⟩
    ·exact P.env.dx i a z (.inr z2)
    ·have:=P.env.dj i i' a z z2;subst this;exact n j q
   ·rcases z2 with z2 | ⟨i',z2,n⟩
    ·exact P.fx a (a3 j a z) z2
    ·exact P.env.dx i' a z2 (.inl (a3 j a z))
  ·have:=o.shl;rw [zad];omega
 rw [List.append_nil];refine ⟨Oxp,ts,Rq,r,outs,ec,h3,fun v H2 R2 Fr Pc oc=>?_⟩;have outl:outs.length=as.length:=by rw [Pc.env.l1,zad]; exact ol
 classical
 let R3:Nat->AS:=fun i=>if q:∃ j:Nat,sh[j]?=some (.inr i) then R2 q.choose else R1 i
 have r31:∀ (i j:Nat),sh[j]?=some (.inr i)->R3 i=R2 j:=fun i j z=>by
  have q:∃ j:Nat,sh[j]?=some (.inr i):=⟨j,z⟩
  have:q.choose=j:=c3 _ _ i q.choose_spec z;show (if q:∃ j:Nat,sh[j]?=some (.inr i) then R2 q.choose else R1 i)=R2 j;rw [dif_pos q,this]
 have r32:∀ i:Nat,(∀ j:Nat,sh[j]?≠some (.inr i))->R3 i=R1 i:=fun i z=>by
  show (if q:∃ j:Nat,sh[j]?=some (.inr i) then R2 q.choose else R1 i)=R1 i;rw [dif_neg fun ⟨j,q⟩=>z j q]
 have r3c:∀ (i:Nat) a,R3 i a->(∃ j:Nat,sh[j]?=some (.inr i)/\R2 j a)\/((∀ j:Nat,sh[j]?≠some (.inr i))/\R1 i a):=fun i a z=>by
  by_cases q:∃ j:Nat,sh[j]?=some (.inr i)
  ·obtain ⟨j,q⟩:=q;rw [r31 i j q] at z;exact .inl ⟨j,q,z⟩
  ·rw [r32 i fun j z=>q ⟨j,z⟩] at z;exact .inr ⟨fun j z=>q ⟨j,z⟩,z⟩
 have sub3:∀ a,Own R3 (U Fr Ox) a->Own R2 (U Fr Oxp) a:=fun a z=>by
  rcases z with ⟨i,z⟩ | z | z
  ·rcases r3c i a z with ⟨j,_,z⟩ | ⟨n,z⟩
   ·exact .inl ⟨j,z⟩
   ·exact .inr (.inr (.inr ⟨i,z,n⟩))
  ·exact .inr (.inl z)
  ·exact .inr (.inr (.inl z))
 have back:∀ a,(Fr a\/∃ j,R2 j a)->Own R1 (U F0 Ox) a\/H1 a=none:=fun a z=>by
  rcases Pc.own a z with ⟨j,z⟩ | z
  ·exact .inl (sub a (.inl ⟨j,z⟩))
  ·exact .inr z
 have back2:∀ a,(Fr a\/∃ j,R2 j a)->(F0 a\/∃ i,R1 i a)\/H1 a=none:=fun a z=>by
  rcases Pc.own a z with ⟨j,z⟩ | z
  ·rcases rqc j a z with ⟨i,_,z⟩ | z
   ·exact .inl (.inr ⟨i,z⟩)
   ·exact .inl (.inl (a3 j a z))
  ·exact .inr z
 have n1:∀ a,H1 a=none->H a=none:=fun a z=>by
  cases q:H a with
  | none=>rfl
  | some o =>
   obtain ⟨o',q'⟩:=P.dom a o q;rw [z] at q';cases q'
 have rqsub:∀ j a,Rq j a->Own R1 (U F0 Ox) a:=fun j a z=>sub a (.inl ⟨j,z⟩);have env3:EnvOk K ds1 (U Fr Ox) H2 σ (wb as outs en1) R3:=by
  refine ⟨fun i u hu=>?_,fun i i' a z z'=>?_,fun i a z z2=>?_,fun a z=>Pc.env.dom a (sub3 a z),by rw [kw]; exact P.env.l1,P.env.l2⟩
  ·by_cases q:∃ j:Nat,as[j]?=some (.inr i)
   ·obtain ⟨j,q⟩:=q;obtain ⟨v,b1,b2,b3⟩:=a2 j i q;have hil:i < en1.length:=by rw [P.env.l1]; exact (zah.mp b3).1
    rw [mS as outs en1 i j q (fun j' z=>c3 j' j i (asl j' i z) b2) outl hil] at hu;obtain ⟨v',d,g1,g2,g3⟩:=Pc.env.at_ j u hu;rw [zao,b1] at g1;cases g1;obtain ⟨qd,q1,q2⟩:=c2 j i b2;rw [g2] at q1;cases q1;refine ⟨v,d,b3,q2,?_⟩;rw [r31 i j b2];exact Ow.grow sub3 u (fun _ z=>z) g3
   ·rw [gh as outs en1 i fun j z=>q ⟨j,z⟩] at hu;have ns:∀ j:Nat,sh[j]?≠some (.inr i):=fun j z=>q ⟨j,asr j i z⟩;obtain ⟨v,d,g1,g2,g3⟩:=P.env.at_ i u hu;refine ⟨v,d,g1,g2,?_⟩;rw [r32 i ns];refine Ow.mv (G:=R1 i) ⟨fun a o q z=>Pc.keep a o q fun j zj=>?_,fun a z=>?_⟩ u (fun _ z=>z) g3
    ·rcases z with z | z
     ·exact z (rqsub j a zj)
     ·rcases rqc j a zj with ⟨i',q',z'⟩ | z'
      ·have:=P.env.dj i i' a z z';subst this;exact ns j q'
      ·exact P.env.dx i a z (.inl (a3 j a z'))
    ·rcases z with ⟨i',z⟩ | z | z
     ·rcases r3c i' a z with ⟨j,_,z⟩ | ⟨n,z⟩
      ·exact back a (.inr ⟨j,z⟩)
      ·exact .inl (.inl ⟨i',z⟩)
     ·exact back a (.inl z)
     ·exact .inl (.inr (.inr z))
  ·rcases r3c i a z with ⟨j,q,z⟩ | ⟨n,z⟩ <;> rcases r3c i' a z' with ⟨j',q',z'⟩ | ⟨n',z'⟩
   ·have:=Pc.env.dj j j' a z z';subst this;rw [q] at q';cases q';rfl
   ·exact absurd (.inr (.inr ⟨i',z',n'⟩)) (Pc.env.dx j a z)
   ·exact absurd (.inr (.inr ⟨i,z,n⟩)) (Pc.env.dx j' a z')
   ·exact P.env.dj i i' a z z'
  ·rcases r3c i a z with ⟨j,q,z⟩ | ⟨n,z⟩
   ·exact Pc.env.dx j a z (z2.imp id .inl)
   ·rcases z2 with z2 | z2
    ·exact Pc.fx a z2 (.inr ⟨i,z,n⟩)
    ·exact P.env.dx i a z (.inr z2)
 refine k v H2 R3 Fr ⟨env3,fun a z z2=>Pc.fx a z (.inl z2),fun a o q n=>?_,fun a z=>?_,fun a o q=>?_,fun hp=>nomatch hp⟩ (fun a o q z=>?_) ?_ (Ow.grow sub3 r (fun _ z=>z) oc)
 ·refine Pc.keep a o (P.keep a o q n) fun j z=>?_;have nn:∀ i,¬ R1 i a:=fun i z=>by
   rcases P.own a (.inr ⟨i,z⟩) with ⟨i',z⟩ | z
   ·exact n i' z
   ·rw [q] at z; cases z
  rcases rqc j a z with ⟨i,_,z⟩ | z
  ·exact nn i z
  ·rcases P.own a (.inl (a3 j a z)) with ⟨i',z⟩ | z
   ·exact n i' z
   ·rw [q] at z; cases z
 ·have:(F0 a\/∃ i,R1 i a)\/H1 a=none:=by
   rcases z with z | ⟨i,z⟩
   ·exact back2 a (.inl z)
   ·rcases r3c i a z with ⟨j,_,z⟩ | ⟨n,z⟩
    ·exact back2 a (.inr ⟨j,z⟩)
    ·exact .inl (.inr ⟨i,z⟩)
  rcases this with z | z
  ·exact P.own a z
  ·exact .inr (n1 a z)
 ·obtain ⟨o',q'⟩:=P.dom a o q;exact Pc.dom a o' q'
 ·obtain ⟨b1,b2,b3⟩:=P.pure rfl;rw [<- b2] at z;refine Pc.keep a o (b3 a o q) fun j zj=>?_;rcases rqc j a zj with ⟨i',q',z'⟩ | z'
  ·have:=P.env.dj i0 i' a z z';subst this;exact hi0 j q'
  ·exact P.env.dx i0 a z (.inl (a3 j a z'))
 ·obtain ⟨b1,b2,b3⟩:=P.pure rfl;rw [gh as outs en1 i0 fun j z=>hi0 j (asl j i0 z),b1]
def Ows.at1 {K:PySem.W.Frag} {O:AS} {H:Hp} {d:Nat}:∀ {ts:List D} {vs:List V} {F:AS} {k:Nat} {u:D} {x:V},Ows K O H ts d vs F->ts[k]?=some u->vs[k]?=some x->∃ F1:AS,(∀ b,F1 b->F b)/\Ow K O H u d x F1
 | [],_,_,k,u,_,_,h,_=>by simp at h
 | t :: ts,_,F,k,u,x,h,hk,hx=>by
  obtain ⟨v,r,F1,F2,e,s1,s2,s3,h4,h5⟩:=h;subst e;cases k with
  | zero =>
   have e1:t=u:=by simpa using hk
   have e2:v=x:=by simpa using hx
   subst e1 e2;exact ⟨F1,s1,h4⟩
  | succ k =>
   obtain ⟨G,g1,g2⟩:=Ows.at1 (k:=k) h5 (by simpa using hk) (by simpa using hx);exact ⟨G,fun b z=>s2 b (g1 b z),g2⟩
def Ow.pathKeep {K:PySem.W.Frag} {O:AS} {H H':Hp}:∀ {π:List Nat} {t u:D} {d:Nat} {v w:V} {F:AS},Ow K O H t d v F->bA t π=some u->dns π.length d≠0->(∀ a o,H a=some o->F a->H' a=some o)->PathV H v π w->PathV H' v π w
 | [],_,_,_,_,_,_,_,_,_,_,h=>h
 | k :: π,t,u,d,v,w,F,h,hp,hz,hk,⟨a,vs,x,e,g1,g2,g3⟩=>by
  have hz1:dns π.length (dn d)≠0:=hz;have hd0:d≠0:=tj (m:=π.length+1) hz;subst e;cases t with
  | list ts =>
   obtain ⟨c,p1,p2⟩:=zaa.mp hp;obtain ⟨a',vs',e,⟨h0,_⟩ | ⟨_,h1,h2,F',hf,h3⟩⟩:=h
   ·exact absurd h0 hd0
   cases e;have ev:vs=vs':=by
    rcases g1 with g1 | g1 <;> rw [h1] at g1 <;> cases g1
    rfl
   subst ev;obtain ⟨F1,s1,s2⟩:=h3.at1 p1 g2;exact ⟨a,vs,x,rfl,.inl (hk a _ h1 h2),g2,s2.pathKeep p2 hz1 (fun b o q z=>hk b o q (hf b (s1 b z)).1) g3⟩
  | tuple ts =>
   obtain ⟨c,p1,p2⟩:=zaa.mp hp;obtain ⟨a',vs',e,⟨h0,_⟩ | ⟨_,h1,h2,F',hf,h3⟩⟩:=h
   ·exact absurd h0 hd0
   cases e;have ev:vs=vs':=by
    rcases g1 with g1 | g1 <;> rw [h1] at g1 <;> cases g1
    rfl
   subst ev;obtain ⟨F1,s1,s2⟩:=h3.at1 p1 g2;exact ⟨a,vs,x,rfl,.inr (hk a _ h1 h2),g2,s2.pathKeep p2 hz1 (fun b o q z=>hk b o q (hf b (s1 b z)).1) g3⟩
  | _=>cases hp
end
section
variable {X:Cx} {K:PySem.W.Frag} {p p1 p2:Bool} {J:Jd} {ds ds1 ds2:List Nat} {H:Hp} {σ:St} {d d1 d2 i m:Nat} {f fk fe:ME} {mp:MP} {e b o:Expr} {Q:VK}
def uL {c:Nat} {D:Ends} (hd1:ds1[i]?=some d) (hd:ds2[i]?=some d) (hz:dns m d≠0) (hc:dn (dns m d)=c) {ds0:List Nat} (h:tFS K J ds ds2 (iz i mp fk fe) D σ H) :
  lB (tF K p ds ds0 c fe) (uI (tP K p1 ds0 ds1 i m mp) (tFk K ds1 ds2 d2 i fk) qu) D σ H:=by
 obtain ⟨Ox,en,R,fl,e,hf,k⟩:=h;unfold iz at hf;obtain ⟨⟨t1,en1⟩,h1,hf⟩:=zaa.mp hf;obtain ⟨⟨π,en2⟩,h2,hf⟩:=zaa.mp hf;obtain ⟨⟨t3,en3⟩,h3,hf⟩:=zaa.mp hf
 dsimp only at hf
 split at hf
 case h_2=>cases hf
 next n t h4 =>
 obtain ⟨u,h5,hf⟩:=zaa.mp hf;cases u with
 | list ts =>
  obtain ⟨kk,h6,hf⟩:=zab.mp hf;cases hf;refine ⟨Ox,en,R,t1,en1,e,h1,fun x H1 R1 F1 P1 o1=>?_⟩;refine ⟨U F1 Ox,en1,R1,π,en2,P1.env,h2,fun v w H2 R2 P2 hl hv pv=>?_⟩;have P12:=P1.trans P2;have o12:=Ow.over P1.env P2 o1;have e0:U F1 NoA=F1:=dq fun a=>⟨fun z=>z.elim id fun z=>z.elim,.inl⟩;rw [e0] at P12 o12;refine ⟨U F1 Ox,en2,R2,.int n,en3,P12.env,h3,fun y H3 R3 F3 P3 kp ei o3=>?_⟩;have P:=P12.trans P3;have o1':=Ow.over P12.env P3 o12;have ey:y=.int n:=o3;subst ey;subst hl;have pv3:PathV H3 v π w:=by
   obtain ⟨v',d',b1,b2,b3⟩:=P12.env.at_ i t (by rw [<- ei]; exact aM h4);rw [hv] at b1;cases b1;rw [hd1] at b2;cases b2;exact b3.pathKeep h5 hz kp pv
  obtain ⟨l,vs,G1,el,hl1,hr,hf1,ow,fin⟩:=P.place (aM h4) hv hd h5 hz pv3;subst el;refine ⟨l,vs,n,kk,rfl,rfl,hl1,by rw [ow.len]; exact h6,?_⟩;have Fn:∀ a,F1 a->a≠l:=fun a z z2=>by
   subst z2;exact P.env.dx i a hr (.inl (.inl z))
  have Ol:Own R3 (U (U F1 F3) Ox) l:=.inl ⟨i,hr⟩;obtain ⟨R',PF⟩:=fin (ts.set kk t1) (vs.set kk x) (U G1 F1) (fun _ z=>z.imp id .inl) fun O' ho=>by
   refine Ows.setAt (Ows.past ho Ol (fun b z=>(hf1 b z).2) ow) ?_ fun b z1 z2=>P.env.dx i b (hf1 b z1).1 (.inl (.inl z2));rw [hc];exact Ow.past ho Ol Fn o1'
  exact k σ _ _ PF.s
 | _=>cases hf
def sJ {c:Nat} {ds0:List Nat} {spos pos:Pos} {k:Expr} (hd1:ds1[i]?=some d) (hd:ds2[i]?=some d) (he:PE X e (tF K p ds ds0 c fe)) (ho:PE X o (tP K p1 ds0 ds1 i m mp)) (hk:PE X k (tFk K ds1 ds2 d2 i fk)) (hz:dns m d≠0) (hc:dn (dns m d)=c)
  (ha:∀ v,assign (.Subscript o k spos) X.env v=(do
   let ov <- holding [v] (eval o X.env);let iv <- holding [v,ov] (eval k X.env)
   standAt spos
   holding [v,ov,iv] (setItem ov iv v)
   release [v,ov,iv] []))
  (hs:swapsWithSole [.Subscript o k spos] e pos.line X.env=pure false) (hw:swappedStores [.Subscript o k spos] e X.env=pure none)
  (h2:(assignEach [.Subscript o k spos] X.env).map (·.2)=[assign (.Subscript o k spos) X.env]) :
  PS X (.Assign [.Subscript o k spos] e pos) (tFS K J ds ds2 (iz i mp fk fe)) :=
 (rQ he (rT ho hk nb ha) hs hw h2).imp fun _ _ _=>uL hd1 hd hz hc
def FQ {k:Nat} {x:Str} {ps:List Str} {es:List Expr} {px pos:Pos} {dps:List Nat} {dr:Nat} {sh:Sh} {fa:MA} {F:List D->Option (D × En)} (G:Kn X.prog X.w X.K X.mg X.base k x ps (spF K dps dr F)) (hr:Room k X.A) (hg:Gl X x) (ha:PA X (e :: es) (tFA K true ds ds1 sh fa)) (hi:∀ j:Nat,sh[j]?≠some (.inr i)) (hcd:cr ds1 sh dps=true) (hdb:(x == ("__debug__" : Str))=false)
  (he:aD e=true) (hpl:es.all aD=true) :
  PE X (.Call (.Name x px) (e :: es) [] pos) (tFk K ds ds1 dr i (am F fa)):=(qw G hr hg ha hdb (aJ he) (dO hpl)).imp fun _ _ _ h=>Hf hi hcd h
def uo {sh:Sh} {i:Nat} (h:sh.all (fun z=>match z with | .inl _=>true | .inr j=>j != i)=true):∀ j:Nat,sh[j]?≠some (.inr i):=fun j z=>by
 have:=List.all_eq_true.mp h _ (zaX z);simp at this
def oR {c:Nat} {ds0:List Nat} {spos pos:Pos} {k:Expr} (hd1:ds1[i]?=some d) (hd:ds2[i]?=some d) (he:QE X e (tF K p ds ds0 c fe)) (ho:QE X o (tP K p1 ds0 ds1 i m mp)) (hk:QE X k (tFk K ds1 ds2 d2 i fk)) (hz:dns m d≠0) (hc:dn (dns m d)=c)
  (ha:∀ v,assign (.Subscript o k spos) X.env v=(do
   let ov <- holding [v] (eval o X.env);let iv <- holding [v,ov] (eval k X.env)
   standAt spos
   holding [v,ov,iv] (setItem ov iv v)
   release [v,ov,iv] []))
  (hs:swapsWithSole [.Subscript o k spos] e pos.line X.env=pure false) (hw:swappedStores [.Subscript o k spos] e X.env=pure none)
  (h2:(assignEach [.Subscript o k spos] X.env).map (·.2)=[assign (.Subscript o k spos) X.env]) :
  QS X (.Assign [.Subscript o k spos] e pos) (tFS K J ds ds2 (iz i mp fk fe)):=⟨sJ hd1 hd he.h ho.h hk.h hz hc ha hs hw h2⟩
def uV {k:Nat} {x:Str} {ps:List Str} {es:List Expr} {px pos:Pos} {dps:List Nat} {dr:Nat} {sh:Sh} {fa:MA} {F:List D->Option (D × En)} (G:Kn X.prog X.w X.K X.mg X.base k x ps (spF K dps dr F)) (hr:Room k X.A) (hg:Gl X x) (ha:QA X (e :: es) (tFA K true ds ds1 sh fa)) (hi:∀ j:Nat,sh[j]?≠some (.inr i)) (hcd:cr ds1 sh dps=true) (hdb:(x == ("__debug__" : Str))=false)
  (he:aD e=true) (hpl:es.all aD=true) :
  QE X (.Call (.Name x px) (e :: es) [] pos) (tFk K ds ds1 dr i (am F fa)):=⟨FQ G hr hg ha.h hi hcd hdb he hpl⟩
end
end L2
namespace W32
open PySem L2
def top (i:Nat):Stmt:=PySem.Challenge.pw_wordrules_k32_shortest_told.main.body.getD i (.Pass ⟨0,0,0,0⟩)
structure Bl (mg:Str->Option Value):Prop where
 abs0:mg "abs"=none
 all0:mg "all"=none
 bool0:mg "bool"=none
 enumerate0:mg "enumerate"=none
 int0:mg "int"=none
 isinstance0:mg "isinstance"=none
 len0:mg "len"=none
 list0:mg "list"=none
 max0:mg "max"=none
 range0:mg "range"=none
 repr0:mg "repr"=none
 reversed0:mg "reversed"=none
 sorted0:mg "sorted"=none
 str0:mg "str"=none
 tuple0:mg "tuple"=none
 zip0:mg "zip"=none
section
variable {P:Program} {w:World} {K:PySem.W.Frag} {mg:Str->Option Value} {base:Heap} {f:Addr} {fd:FuncData}
abbrev iT:Stmt:=top 1
abbrev lp:List Str:=["goes", "first", "came", "ahead", "done", "here", "sign", "there"]
def sccame_from:FnScope lp ["goes", "first"] (av iT):=⟨rfl,rfl,rfl,by decide +kernel,rfl,by decide +kernel,by decide +kernel⟩
def cW:MS:=(sIf (cu (tV (e2 gi (aa 7) (eC .none))) (tV (e2 fG (aa 7) (aa 2)))) (aj (bE 2 (aa 7) (cR (ad (aa 5) (ad (aa 6) ah))))
 (bh (bG 3 (aa 7)))) aW)
def jJ:MS:=(aj (aq 5 (dW 3 (aa 4)))
 (aj (cC (ij (ad (e2 ixA (aa 0) (aa 5)) ah)) (gT (gsC (gN 6) (gsC (gN 7) gs0))) cW)
 (aq 4 (e2 aQ (aa 4) (eC (.int 1))))))
def gz:MT:=(tV (e2 ltI (aa 4) (eN br (ad (aa 3) ah))))
noncomputable def i9:MS:=(aj (aq 2 (fq [((eS3 (aa 1)),(eC .none))]))
 (aj (aq 3 (aO (ad (aa 1) ah)))
 (aj (aq 4 (eC (.int 0)))
 (aj (bN gz jJ)
 (aI (eMv 2))))))
noncomputable def bV:List D->Option (D × En):=fnF 6 [0,0] i9
def oK {k:Nat} (T:Bl mg)   (F:Fun K "came_from" "came_from" iT f fd):FnOk P w K mg base CX0 (k+1) f fd ["goes", "first"] (spF K [0,0] 1 bV):=by
 have nd:=sccame_from.nd;refine F.okQ (N:=lp) (b:=i9) (J:=⟨[],[0,0,0,0,0,0,0,0],1,[]⟩) (ds0:=[0,0,0,0,0,0,0,0]) sccame_from rfl rfl rfl rfl fun cdv A outer s H E hr=>?_;exact (ag (aY 2 [0,0,1,0,0,0,0,0] nd (ju (fs:=[((eS3 (aa 1)),(eC .none))]) (fC (BZ (fv 1 rfl rfl)) (fs0 bv) kh) rfl rfl (fun z=>nomatch z) (by decide)) rfl rfl rfl) (ag (aY 3 [0,0,1,1,0,0,0,0] nd (aL (d:=1) (c:=0) (ac (fv 1 rfl rfl) af rfl) rfl rfl (by decide)) rfl rfl rfl) (ag (aY 4 [0,0,1,1,0,0,0,0] nd (fs0 ai) rfl rfl rfl) (ag (gZ (ds:=[0,0,1,1,0,0,0,0]) (cM (ds0:=[0,0,1,0,0,0,0,0]) (ba mW (fv 4 rfl rfl) (fln rfl T.len0 (ac (fv 3 rfl rfl) af rfl) rfl rfl) (aX _)) rfl) (ag (aY 5 [0,0,1,1,0,0,0,0] nd (n9 (K:=K) (i:=3) rfl rfl (.inl rfl) rfl (fv 4 rfl rfl) (fun _ _=>rfl) rfl rfl) rfl rfl rfl) (ag (cc (ds1:=[0,0,1,1,0,0,0,0]) rfl (mD (K:=K) rfl rfl T.enumerate0 (ac (eo (gK (K:=K) rfl) (fv 0 rfl rfl) (fv 5 rfl rfl) (fun _ _=>rfl)) af rfl) rfl) (gM (K:=K) rfl rfl (bJ (aF (i:=6) (ds':=[0,0,1,1,0,0,0,0]) nd rfl (.inl rfl) rfl (by decide) (by decide) (.inl rfl)) (bJ (aF (i:=7) (ds':=[0,0,1,1,0,0,0,0]) nd rfl (.inl rfl) rfl (by decide) (by decide) (.inl rfl)) fW rfl) rfl) jT rfl rfl) (aK (aU (ds2:=[0,0,1,1,0,0,0,0]) (cM (ds0:=[0,0,0,1,0,0,0,0]) (qpt (iM (ba lV (fv 7 rfl rfl) bv (aX _)) (gJ (mC (bo hr) (fv 7 rfl rfl) (fv 2 rfl rfl) (by with_unfolding_all rfl))))) rfl) (ag (di (i:=2) (bo hr) rfl (.inl rfl) (cP (d:=0) (c:=0) (ac (fv 5 rfl rfl) (ac (fv 6 rfl rfl) af rfl) rfl) rfl rfl) (fv 7 rfl rfl) rfl rfl rfl rfl) (aK (bn (cQ (K:=K) (i:=3) (d:=1) rfl rfl (.inl rfl) rfl (fv 7 rfl rfl) (by decide) rfl rfl rfl rfl rfl rfl rfl rfl) rfl))) aN)) PassesOwn.never (fun _=>rfl)) (aK (aY 4 [0,0,1,1,0,0,0,0] nd (fs0 (ao bj (fv 4 rfl rfl) ai)) rfl rfl rfl)))) PassesOwn.never) (frt (lX (i:=2) (ds':=[0,0,0,1,0,0,0,0]) rfl (.inl rfl) rfl rfl rfl rfl) rfl)))))
abbrev mj:Stmt:=top 3
abbrev qb:List Str:=["came", "stand", "row", "before"]
def scrow_to:FnScope qb ["came", "stand"] (av mj):=⟨rfl,rfl,rfl,by decide +kernel,rfl,by decide +kernel,by decide +kernel⟩
def mN:MS:=(aj (bh (bG 2 (e2 ixA (aa 3) (eC (.int 1)))))
 (aq 3 (e2 l9 (aa 0) (e2 ixA (aa 3) (eC (.int 0))))))
def jE:MT:=(tV (e2 gi (aa 3) (eC .none)))
noncomputable def mq:MS:=(aj (aq 2 (aO ah))
 (aj (aq 3 (e2 l9 (aa 0) (aa 1)))
 (aj (bN jE mN)
 (aI (eN mV (ad (aa 2) ah))))))
noncomputable def gg:List D->Option (D × En):=fnF 2 [0,0] mq
def uk {k:Nat} (T:Bl mg)   (F:Fun K "row_to" "row_to" mj f fd):FnOk P w K mg base CX0 (k+1) f fd ["came", "stand"] (spF K [0,0] 1 gg):=by
 have nd:=scrow_to.nd;refine F.okQ (N:=qb) (b:=mq) (J:=⟨[],[0,0,0,0],1,[]⟩) (ds0:=[0,0,0,0]) scrow_to rfl rfl rfl rfl fun cdv A outer s H E hr=>?_;exact (ag (aY 2 [0,0,1,0] nd (bX (d':=1) (aL (d:=3) (c:=3) af rfl rfl (by decide)) (by decide)) rfl rfl rfl) (ag (aY 3 [0,0,1,0] nd (mE (bo hr) (fv 0 rfl rfl) (fv 1 rfl rfl) (fun _ _=>rfl)) rfl rfl rfl) (ag (gZ (ds:=[0,0,1,0]) (ba lV (fv 3 rfl rfl) bv (aX _)) (ag (bn (cQ (K:=K) (i:=2) (d:=1) rfl rfl (.inl rfl) rfl (fxi rfl (fv 3 rfl rfl)) (by decide) rfl rfl rfl rfl rfl rfl rfl rfl) rfl) (aK (aY 3 [0,0,1,0] nd (mE (bo hr) (fv 0 rfl rfl) (fxi rfl (fv 3 rfl rfl)) (fun _ _=>rfl)) rfl rfl rfl))) PassesOwn.never) (frt (sU (K:=K) rfl rfl rfl T.list0 rfl T.reversed0 (ac (cA (ds0:=[0,0,0,0]) (bC (p:=false) (i:=2) rfl (.inl rfl) rfl rfl rfl) rfl) af rfl) rfl rfl) rfl))))
abbrev iS:Stmt:=top 2
abbrev lj:List Str:=["machine", "stand", "came", "there"]
def scfirst_row:FnScope lj ["machine", "stand"] (av iS):=⟨rfl,rfl,rfl,by decide +kernel,rfl,by decide +kernel,by decide +kernel⟩
noncomputable def gB:MS:=(sIf (tV (e2 ixA (e2 ixA (aa 0) (eC (.int 0))) (aa 3))) (aI (am gg (ad (aa 2) (ad (aa 3) ah)))) aW)
noncomputable def i8:MS:=(aj (aq 2 (am bV (ad (e2 ixA (aa 0) (eC (.int 1))) (ad (aa 1) ah))))
 (aj (cC (iDk true 2) (gN 3) gB)
 (aI (eC .none))))
noncomputable def dz:List D->Option (D × En):=fnF 2 [0,0] i8
def oJ {k:Nat} (T:Bl mg)  (i4:Kn P w K mg base k "came_from" ["goes", "first"] (spF K [0,0] 1 bV)) (Cp:Kn P w K mg base k "row_to" ["came", "stand"] (spF K [0,0] 1 gg)) (F:Fun K "first_row" "first_row" iS f fd):FnOk P w K mg base CX0 (k+1) f fd ["machine", "stand"] (spF K [0,0] 1 dz):=by
 have nd:=scfirst_row.nd;refine F.okQ (N:=lj) (b:=i8) (J:=⟨[],[0,0,0,0],1,[]⟩) (ds0:=[0,0,0,0]) scfirst_row rfl rfl rfl rfl fun cdv A outer s H E hr=>?_;exact (ag (aY 2 [0,0,1,0] nd (fnn i4 hr (ac (fxi rfl (fv 0 rfl rfl)) (ac (fv 1 rfl rfl) af rfl) rfl) rfl rfl) rfl rfl rfl) (ag (cc (ds1:=[0,0,0,0]) rfl (BU (K:=K) (i:=2) (d:=1) true rfl rfl (.inl rfl) rfl (by decide) rfl rfl rfl) (aF (i:=3) (ds':=[0,0,0,0]) nd rfl (.inl rfl) rfl (by decide) (by decide) (.inl rfl)) (aK (aU (ds2:=[0,0,0,0]) (dY (eo (gK (K:=K) rfl) (fxi rfl (fv 0 rfl rfl)) (fv 3 rfl rfl) (fun _ _=>rfl)) (fun _=>rfl)) (frt (fnn Cp hr (ac (fv 2 rfl rfl) (ac (fv 3 rfl rfl) af rfl) rfl) rfl rfl) rfl) aN)) PassesOwn.never (fun _=>rfl)) (frt (bX (d':=1) bv (by decide)) rfl)))
abbrev fX:Stmt:=top 6
abbrev iX:List Str:=["came", "lengths", "layers", "stand", "before"]
def sclayers_of:FnScope iX ["came"] (av fX):=⟨rfl,rfl,rfl,by decide +kernel,rfl,by decide +kernel,by decide +kernel⟩
def gA:MS:=(aj (bE 1 (aa 3) (eIf (tV (e2 isN (aa 4) (eC .none))) (eC (.int 0)) (e2 aQ (aP 1 (e2 ixA (aa 4) (eC (.int 0)))) (eC (.int 1)))))
 (aj (sIf (tV (e2 eqD (aP 1 (aa 3)) (eN br (ad (aa 2) ah)))) (bh (bG 2 (aO ah))) aW)
 (bh (b8 2 (pIx 2 (cJ 2) (aP 1 (aa 3))) (aa 3)))))
def gC:ME:=(eUp (eN eE (ad (aa 0) ah)))
def i7:MS:=(aj (aq 1 mY)
 (aj (aq 2 (aO ah))
 (aj (cC (iDm false 0) (gT (gsC (gN 3) (gsC (gN 4) gs0))) gA)
 (aI (eLC true (cE (aa 2)) (gN 0) cY gC [none])))))
def dy:List D->Option (D × En):=fnF 4 [1] i7
def oI {k:Nat} (T:Bl mg)   (F:Fun K "layers_of" "layers_of" fX f fd):FnOk P w K mg base CX0 (k+1) f fd ["came"] (spF K [1] 3 dy):=by
 have nd:=sclayers_of.nd;refine F.okQ (N:=iX) (b:=i7) (J:=⟨[0],[1,0,0,0,0],3,[]⟩) (ds0:=[1,0,0,0,0]) sclayers_of rfl rfl rfl rfl fun cdv A outer s H E hr=>?_;exact (ag (aY 1 [1,1,0,0,0] nd (bX (d':=1) sV (by decide)) rfl rfl rfl) (ag (aY 2 [1,1,2,0,0] nd (bX (d':=2) (aL (d:=3) (c:=3) af rfl rfl (by decide)) (by decide)) rfl rfl rfl) (ag (cc (ds1:=[1,1,2,0,0]) rfl (BT (K:=K) (i:=0) (d:=1) false rfl rfl (.inl rfl) rfl (by decide) rfl rfl rfl rfl rfl) (gM (K:=K) rfl rfl (bJ (aF (i:=3) (ds':=[1,1,2,0,0]) nd rfl (.inl rfl) rfl (by decide) (by decide) (.inl rfl)) (bJ (aF (i:=4) (ds':=[1,1,2,0,0]) nd rfl (.inl rfl) rfl (by decide) (by decide) (.inl rfl)) fW rfl) rfl) jT rfl rfl) (ag (di (i:=1) (bo hr) rfl (.inl rfl) (fs0 (B3 (ba kS (fv 4 rfl rfl) bv (aX _)) ai (ao bj (bc (i:=1) (bo hr) rfl (.inl rfl) rfl (fxi rfl (fv 4 rfl rfl)) (fun _ _=>rfl) rfl rfl) ai))) (fv 3 rfl rfl) rfl rfl rfl rfl) (ag (aU (ds2:=[1,1,2,0,0]) (cM (ds0:=[1,1,0,0,0]) (fte rfl hr.units (bc (i:=1) (bo hr) rfl (.inl rfl) rfl (fv 3 rfl rfl) (fun _ _=>rfl) rfl rfl) (fln rfl T.len0 (ac (fv 2 rfl rfl) af rfl) rfl rfl)) rfl) (aK (bn (cQ (K:=K) (i:=2) (d:=2) rfl rfl (.inl rfl) rfl (bX (d':=1) (aL (d:=3) (c:=3) af rfl rfl (by decide)) (by decide)) (by decide) rfl rfl rfl rfl rfl rfl rfl rfl) rfl)) aN) (aK (bn (fF (K:=K) (i:=2) (d:=2) rfl rfl rfl (dS (i:=2) (d:=2) rfl rfl (dZ (i:=2) rfl (.inl rfl) rfl rfl) (bc (i:=1) (bo hr) rfl (.inl rfl) rfl (fv 3 rfl rfl) (fun _ _=>rfl) rfl rfl) (by decide) (by first | exact .inl rfl | exact .inr rfl) (fun _ _=>rfl)) (fv 3 rfl rfl) (by decide) rfl rfl rfl rfl rfl rfl) rfl)))) PassesOwn.never (fun _=>rfl)) (frt (gb (cd:=3) (d:=3) (dsi:=[0]) (lk:=[]) (BlkOkC.of (ns:=["layer"]) (js:=[none]) (N0:=iX) (sc0:=av fX) rfl rfl (by decide +kernel)) rfl (dU (K:=K) rfl (cA (ds0:=[1,1,0,0,0]) (bC (p:=false) (i:=2) rfl (.inl rfl) rfl rfl rfl) rfl)) (fun _ _ _ _ _=>(aF (i:=0) (ds':=[0]) (show (["layer"]:List Str).Nodup by decide +kernel) rfl (.inl rfl) rfl (by decide) (by decide) (.inr rfl))) (fun _ _ _ _ _=>bI) (fun _ _ _ _ _=>(BY (fcb (nY (K:=K) rfl) T.sorted0 (by decide +kernel) (ac (fv 0 rfl rfl) af rfl) rfl rfl))) rfl rfl (by decide) rfl (fun _=>rfl)) rfl))))
abbrev jF:Stmt:=top 5
abbrev mL:List Str:=["machine", "layers", "row"]
def scshortest:FnScope mL ["machine"] (av jF):=⟨rfl,rfl,rfl,by decide +kernel,rfl,by decide +kernel,by decide +kernel⟩
noncomputable def jM:MS:=(aj (aq 1 (am dy (ad (am bV (ad (e2 ixA (aa 0) (eC (.int 1))) (ad (eC (.int 0)) ah))) ah)))
 (aj (aq 2 (am dz (ad (aa 0) (ad (eC (.int 0)) ah))))
 (aj (sIf (tV (e2 isN (aa 2) (eC .none))) (aI (cR (ad (eC (.str "none")) (ad (eMv 1) ah)))) aW)
 (aI (jW "row" 2 1 (e2 aQ (eN br (ad (aa 2) ah)) (eC (.int 1))))))))
noncomputable def cZ:List D->Option (D × En):=fnF 2 [0] jM
def qz {k:Nat} (T:Bl mg)  (re:Kn P w K mg base k "layers_of" ["came"] (spF K [1] 3 dy)) (rf:Kn P w K mg base k "first_row" ["machine", "stand"] (spF K [0,0] 1 dz)) (i4:Kn P w K mg base k "came_from" ["goes", "first"] (spF K [0,0] 1 bV)) (F:Fun K "shortest" "shortest" jF f fd):FnOk P w K mg base CX0 (k+1) f fd ["machine"] (spF K [0] 3 cZ):=by
 have nd:=scshortest.nd;refine F.okQ (N:=mL) (b:=jM) (J:=⟨[],[0,0,0],3,[]⟩) (ds0:=[0,0,0]) scshortest rfl rfl rfl rfl fun cdv A outer s H E hr=>?_;exact (ag (aY 1 [0,3,0] nd (fnn re hr (ac (fnn i4 hr (ac (fxi rfl (fv 0 rfl rfl)) (ac (fs0 ai) af rfl) rfl) rfl rfl) af rfl) rfl rfl) rfl rfl rfl) (ag (aY 2 [0,3,1] nd (fnn rf hr (ac (fv 0 rfl rfl) (ac (fs0 ai) af rfl) rfl) rfl rfl) rfl rfl rfl) (ag (aU (ds2:=[0,3,1]) (cM (ds0:=[0,3,0]) (ba kS (fv 2 rfl rfl) bv (aX _)) rfl) (frt (cP (d:=3) (c:=3) (ac bu (ac (lX (i:=1) (ds':=[0,0,1]) rfl (.inl rfl) rfl rfl rfl rfl) af rfl) rfl) rfl rfl) rfl) aN) (frt (sT (K:=K) (i:=2) (j:=1) (ds0:=[0,0,0]) rfl rfl (.inl rfl) rfl (.inl rfl) rfl rfl (by decide) (by decide) (by decide) rfl (ao bj (fln rfl T.len0 (ac (fv 2 rfl rfl) af rfl) rfl rfl) ai) rfl rfl rfl rfl) rfl))))
abbrev jH:Stmt:=top 8
abbrev mM:List Str:=["_law_script", "_law_first"]
def sc_law_pen:FnScope mM ["_law_script", "_law_first"] (av jH):=⟨rfl,rfl,rfl,by decide +kernel,rfl,by decide +kernel,by decide +kernel⟩
def eD:MS:=(aI (fq [((eC (.str "script")),(aa 0)),((eC (.str "at")),(aa 1)),((eC (.str "left")),(eC (.int 0)))]))
def bK:List D->Option (D × En):=fnF 0 [0,0] eD
def qA {k:Nat} (T:Bl mg)   (F:Fun K "_law_pen" "_law_pen" jH f fd):FnOk P w K mg base CX0 (k+1) f fd ["_law_script", "_law_first"] (spF K [0,0] 1 bK):=by
 have nd:=sc_law_pen.nd;refine F.okQ (N:=mM) (b:=eD) (J:=⟨[],[0,0],1,[]⟩) (ds0:=[0,0]) sc_law_pen rfl rfl rfl rfl fun cdv A outer s H E hr=>?_;exact (frt (ju (fs:=[((eC (.str "script")),(aa 0)),((eC (.str "at")),(aa 1)),((eC (.str "left")),(eC (.int 0)))]) (fC bu (fv 0 rfl rfl) (fC bu (fv 1 rfl rfl) (fC bu (fs0 ai) kh))) rfl rfl (fun z=>nomatch z) (by decide)) rfl)
abbrev h9:Stmt:=top 9
abbrev j5:List Str:=["_law_cell", "_law_k", "_law_one", "_law_two"]
def sc_law_mixed:FnScope j5 ["_law_cell", "_law_k"] (av h9):=⟨rfl,rfl,rfl,by decide +kernel,rfl,by decide +kernel,by decide +kernel⟩
def dJ:MS:=(aj (aq 2 (e2 bp (e2 bF (e2 aQ (e2 aQ (e2 bp (aa 0) (eC (.int 2147483629))) (e2 bF (eC (.int 40503)) (aa 1))) (eC (.int 24691))) (eC (.int 48271))) (eC (.int 2147483647))))
 (aj (aq 3 (e2 bp (e2 aQ (e2 aQ (e2 bF (aa 2) (aa 2)) (e2 bF (eC (.int 69621)) (aa 2))) (aa 1)) (eC (.int 2147483629))))
 (aI (e2 bZ (e2 bp (e2 aQ (e2 aQ (e2 bF (aa 3) (aa 3)) (e2 bF (eC (.int 16807)) (aa 3))) (e2 bF (eC (.int 31)) (aa 1))) (eC (.int 1073741789))) (eC (.int 64))))))
def bL:List D->Option (D × En):=fnF 2 [0,0] dJ
def nv {k:Nat} (T:Bl mg)   (F:Fun K "_law_mixed" "_law_mixed" h9 f fd):FnOk P w K mg base CX0 (k+1) f fd ["_law_cell", "_law_k"] (spF K [0,0] 3 bL):=by
 have nd:=sc_law_mixed.nd;refine F.okQ (N:=j5) (b:=dJ) (J:=⟨[],[0,0,0,0],3,[]⟩) (ds0:=[0,0,0,0]) sc_law_mixed rfl rfl rfl rfl fun cdv A outer s H E hr=>?_;exact (ag (aY 2 [0,0,0,0] nd (fs0 (ao fE (ao gw (ao bj (ao bj (ao fE (fv 0 rfl rfl) ai) (ao gw ai (fv 1 rfl rfl))) ai) ai) ai)) rfl rfl rfl) (ag (aY 3 [0,0,0,0] nd (fs0 (ao fE (ao bj (ao bj (ao gw (fv 2 rfl rfl) (fv 2 rfl rfl)) (ao gw ai (fv 2 rfl rfl))) (fv 1 rfl rfl)) ai)) rfl rfl rfl) (frt (ao lW (ao fE (ao bj (ao bj (ao gw (fv 3 rfl rfl) (fv 3 rfl rfl)) (ao gw ai (fv 3 rfl rfl))) (ao gw ai (fv 1 rfl rfl))) ai) ai) rfl)))
abbrev iU:Stmt:=top 10
abbrev lq:List Str:=["_law_pen_here", "_law_most", "_law_k", "_law_script", "_law_cell", "_law_got"]
def sc_law_take:FnScope lq ["_law_pen_here", "_law_most"] (av iU):=⟨rfl,rfl,rfl,by decide +kernel,rfl,by decide +kernel,by decide +kernel⟩
def ga:MS:=(aj (aq 2 (aP 0 (eC (.str "at"))))
 (aj (aq 3 (aP 0 (eC (.str "script"))))
 (aj (sIf (tV (e2 eqD (aP 0 (eC (.str "left"))) (eC (.int 0)))) (aj (bE 0 (eC (.str "at")) (e2 aQ (aa 2) (eC (.int 1))))
 (aj (aq 4 (eC (.int 0)))
 (aj (sIf (tV (e2 gtI (eN br (ad (aa 3) ah)) (eC (.int 0)))) (aq 4 (e2 ixA (aa 3) (e2 bp (aa 2) (eN br (ad (aa 3) ah))))) aW)
 (aj (sIf (bOr (tV (e2 geI (aa 2) (eN br (ad (aa 3) ah)))) (tV (e2 ltI (eN iR (ad (aa 4) ah)) (e2 lE (eC (.int 10)) (eC (.int 18)))))) (aI (e2 bp (am bL (ad (aa 4) (ad (aa 2) ah))) (aa 1))) aW)
 (bE 0 (eC (.str "left")) (eN iR (ad (aa 4) ah))))))) aW)
 (aj (aq 5 (e2 bp (aP 0 (eC (.str "left"))) (aa 1)))
 (aj (bE 0 (eC (.str "left")) (e2 bZ (aP 0 (eC (.str "left"))) (aa 1)))
 (aI (aa 5)))))))
def ak:List D->Option (D × En):=fnF 4 [1,0] ga
def oM {k:Nat} (T:Bl mg)  (oW:Kn P w K mg base k "_law_mixed" ["_law_cell", "_law_k"] (spF K [0,0] 3 bL)) (F:Fun K "_law_take" "_law_take" iU f fd):FnOk P w K mg base CX0 (k+1) f fd ["_law_pen_here", "_law_most"] (spF K [1,0] 0 ak):=by
 have nd:=sc_law_take.nd;refine F.okQ (N:=lq) (b:=ga) (J:=⟨[0],[1,0,0,0,0,0],0,[]⟩) (ds0:=[1,0,0,0,0,0]) sc_law_take rfl rfl rfl rfl fun cdv A outer s H E hr=>?_;exact (ag (aY 2 [1,0,0,0,0,0] nd (bc (i:=0) (bo hr) rfl (.inl rfl) rfl bu (fun _ _=>rfl) rfl rfl) rfl rfl rfl) (ag (aY 3 [1,0,0,0,0,0] nd (bc (i:=0) (bo hr) rfl (.inl rfl) rfl bu (fun _ _=>rfl) rfl rfl) rfl rfl rfl) (ag (aU (ds2:=[1,0,0,0,0,0]) (fte rfl hr.units (bc (i:=0) (bo hr) rfl (.inl rfl) rfl bu (fun _ _=>rfl) rfl rfl) ai) (ag (di (i:=0) (bo hr) rfl (.inl rfl) (fs0 (ao bj (fv 2 rfl rfl) ai)) bu rfl rfl rfl rfl) (ag (aY 4 [1,0,0,0,0,0] nd (fs0 ai) rfl rfl rfl) (ag (aU (ds2:=[1,0,0,0,0,0]) (ba GS (fln rfl T.len0 (ac (fv 3 rfl rfl) af rfl) rfl rfl) ai (aX _)) (aK (aY 4 [1,0,0,0,0,0] nd (eo (gK (K:=K) rfl) (fv 3 rfl rfl) (ao fE (fv 2 rfl rfl) (fln rfl T.len0 (ac (fv 3 rfl rfl) af rfl) rfl rfl)) (fun _ _=>rfl)) rfl rfl rfl)) aN) (ag (aU (ds2:=[1,0,0,0,0,0]) (qpt (ik (ba AE (fv 2 rfl rfl) (fln rfl T.len0 (ac (fv 3 rfl rfl) af rfl) rfl rfl) (aX _)) (gt (ba mW (fcb sO T.abs0 (by decide +kernel) (ac (fv 4 rfl rfl) af rfl) rfl rfl) (ao Fw ai ai) (aX _))))) (frt (fs0 (ao fE (fnn oW hr (ac (fv 4 rfl rfl) (ac (fv 2 rfl rfl) af rfl) rfl) rfl rfl) (fv 1 rfl rfl))) rfl) aN) (aK (di (i:=0) (bo hr) rfl (.inl rfl) (fs0 (fcb sO T.abs0 (by decide +kernel) (ac (fv 4 rfl rfl) af rfl) rfl rfl)) bu rfl rfl rfl rfl)))))) aN) (ag (aY 5 [1,0,0,0,0,0] nd (fs0 (ao fE (bc (i:=0) (bo hr) rfl (.inl rfl) rfl bu (fun _ _=>rfl) rfl rfl) (fv 1 rfl rfl))) rfl rfl rfl) (ag (di (i:=0) (bo hr) rfl (.inl rfl) (fs0 (ao lW (bc (i:=0) (bo hr) rfl (.inl rfl) rfl bu (fun _ _=>rfl) rfl rfl) (fv 1 rfl rfl))) bu rfl rfl rfl rfl) (frt (fv 5 rfl rfl) rfl))))))
abbrev hV:Stmt:=top 11
abbrev j4:List Str:=["_law_pen_here"]
def sc_law_signs:FnScope j4 ["_law_pen_here"] (av hV):=⟨rfl,rfl,rfl,by decide +kernel,rfl,by decide +kernel,by decide +kernel⟩
def fy:MS:=(aI (e2 ixA (aO (ad (eC (.int 2)) (ad (eC (.int 1)) (ad (eC (.int 3)) (ad (eC (.int 2)) (ad (eC (.int 4)) (ad (eC (.int 3)) (ad (eC (.int 2)) (ad (e2 aQ (eC (.int 5)) (am ak (az 0 (ad (eC (.int 8)) ah)))) ah))))))))) (am ak (az 0 (ad (eC (.int 8)) ah)))))
def bq:List D->Option (D × En):=fnF 0 [1] fy
def nu {k:Nat} (T:Bl mg)  (aH:Kn P w K mg base k "_law_take" ["_law_pen_here", "_law_most"] (spF K [1,0] 0 ak)) (F:Fun K "_law_signs" "_law_signs" hV f fd):FnOk P w K mg base CX0 (k+1) f fd ["_law_pen_here"] (spF K [1] 3 bq):=by
 have nd:=sc_law_signs.nd;refine F.okQ (N:=j4) (b:=fy) (J:=⟨[0],[1],3,[]⟩) (ds0:=[1]) sc_law_signs rfl rfl rfl rfl fun cdv A outer s H E hr=>?_;exact (frt (n8 (K:=K) rfl (aL (d:=3) (c:=3) (ac ai (ac ai (ac ai (ac ai (ac ai (ac ai (ac ai (ac (ao bj ai (fns aH hr (fsl 0 (ac (fs0 ai) af rfl) rfl) rfl rfl)) af rfl) rfl) rfl) rfl) rfl) rfl) rfl) rfl) rfl rfl (by decide)) (fns aH hr (fsl 0 (ac (fs0 ai) af rfl) rfl) rfl rfl) (fun _ _=>rfl) (by decide)) rfl)
abbrev iV:Stmt:=top 12
abbrev lu:List Str:=["_law_pen_here", "_law_stand", "_law_stands", "_law_way", "_law_goal_here"]
def sc_law_goal:FnScope lu ["_law_pen_here", "_law_stand", "_law_stands", "_law_way"] (av iV):=⟨rfl,rfl,rfl,by decide +kernel,rfl,by decide +kernel,by decide +kernel⟩
def dA:MS:=(aj (aq 4 (am ak (az 0 (ad (e2 aQ (aa 2) (eC (.int 1))) ah))))
 (aj (sIf (bOr (tV (e2 eqD (aa 4) (aa 2))) (cu (tV (e2 eqD (aa 3) (eC (.int 1)))) (tV (e2 leI (aa 4) (aa 1))))) (aI (eC .none)) aW)
 (aI (aa 4))))
def bx:List D->Option (D × En):=fnF 1 [1,0,0,0] dA
def oO {k:Nat} (T:Bl mg)  (aH:Kn P w K mg base k "_law_take" ["_law_pen_here", "_law_most"] (spF K [1,0] 0 ak)) (F:Fun K "_law_goal" "_law_goal" iV f fd):FnOk P w K mg base CX0 (k+1) f fd ["_law_pen_here", "_law_stand", "_law_stands", "_law_way"] (spF K [1,0,0,0] 0 bx):=by
 have nd:=sc_law_goal.nd;refine F.okQ (N:=lu) (b:=dA) (J:=⟨[0],[1,0,0,0,0],0,[]⟩) (ds0:=[1,0,0,0,0]) sc_law_goal rfl rfl rfl rfl fun cdv A outer s H E hr=>?_;exact (ag (aY 4 [1,0,0,0,0] nd (fns aH hr (fsl 0 (ac (fs0 (ao bj (fv 2 rfl rfl) ai)) af rfl) rfl) rfl rfl) rfl rfl rfl) (ag (aU (ds2:=[1,0,0,0,0]) (qpt (ik (fte rfl hr.units (fv 4 rfl rfl) (fv 2 rfl rfl)) (gt (qpt (iM (fte rfl hr.units (fv 3 rfl rfl) ai) (gJ (ba AD (fv 4 rfl rfl) (fv 1 rfl rfl) (aX _)))))))) (frt (fs0 bv) rfl) aN) (frt (fv 4 rfl rfl) rfl)))
abbrev cx:Stmt:=top 13
abbrev dN:List Str:=["_law_pen_here", "_law_signs_here", "_law_most", "_law_stands", "_law_way", "_law_fence", "_law_ends", "_law_goes", "_law_stand", "_law_row"]
def sc_law_machine:FnScope dN ["_law_pen_here", "_law_signs_here", "_law_most"] (av cx):=⟨rfl,rfl,rfl,by decide +kernel,rfl,by decide +kernel,by decide +kernel⟩
def ly:ME:=(am bx (az 1 (ad (aa 4) (ad (aa 2) (ad (aa 3) ah)))))
def lx:ME:=(e2 ixA (aO (ad (aa 0) (ad (eC .none) ah))) (eN gp (ad (eOr (e2 isN (aa 0) (eC .none)) (e2 geI (aa 0) (aa 1))) ah)))
def lw:MS:=(aj (bh (bG 6 (e2 eqD (am ak (az 0 (ad (eC (.int 3)) ah))) (eC (.int 0)))))
 (aj (aq 9 (eLC false (bt (ad (aa 1) ah)) (gN 0) cY ly [none,some 0,some 3,some 4,some 8]))
 (aj (sIf (cu (tV (e2 eqD (aa 4) (eC (.int 2)))) (tV (e2 ltI (aa 8) (aa 5)))) (aj (bY 6 (aa 8) (eC (.bool false)))
 (aq 9 (eLC true (cE (aa 9)) (gN 0) cY lx [none,some 5]))) aW)
 (bh (bG 7 (aa 9))))))
def cy:MS:=(aj (aq 3 (e2 aQ (eC (.int 1)) (am ak (az 0 (ad (aa 2) ah)))))
 (aj (aq 4 (am ak (az 0 (ad (eC (.int 4)) ah))))
 (aj (aq 5 (e2 aQ (eC (.int 1)) (am ak (az 0 (ad (aa 3) ah)))))
 (aj (aq 6 (aO ah))
 (aj (aq 7 (aO ah))
 (aj (cC (bt (ad (aa 3) ah)) (gN 8) lw)
 (aI (cR (ad (aa 6) (ad (aa 7) ah))))))))))
def bd:List D->Option (D × En):=fnF 7 [1,0,0] cy
def lJ {k:Nat} (T:Bl mg)  (aH:Kn P w K mg base k "_law_take" ["_law_pen_here", "_law_most"] (spF K [1,0] 0 ak)) (rh:Kn P w K mg base k "_law_goal" ["_law_pen_here", "_law_stand", "_law_stands", "_law_way"] (spF K [1,0,0,0] 0 bx)) (F:Fun K "_law_machine" "_law_machine" cx f fd):FnOk P w K mg base CX0 (k+1) f fd ["_law_pen_here", "_law_signs_here", "_law_most"] (spF K [1,0,0] 0 bd):=by
 have nd:=sc_law_machine.nd;refine F.okQ (N:=dN) (b:=cy) (J:=⟨[0],[1,0,0,0,0,0,0,0,0,0],0,[]⟩) (ds0:=[1,0,0,0,0,0,0,0,0,0]) sc_law_machine rfl rfl rfl rfl fun cdv A outer s H E hr=>?_;exact (ag (cN (i:=3) (d:=0) (ds':=[1,0,0,0,0,0,0,0,0,0]) nd rfl (.inr rfl) (fs0 (ao bj ai (fns aH hr (nX 0 (ac (fv 2 rfl rfl) af rfl) rfl) rfl rfl))) rfl (by decide) (by decide) rfl (.inl rfl)) (ag (cN (i:=4) (d:=0) (ds':=[1,0,0,0,0,0,0,0,0,0]) nd rfl (.inr rfl) (fns aH hr (nX 0 (ac (fs0 ai) af rfl) rfl) rfl rfl) rfl (by decide) (by decide) rfl (.inl rfl)) (ag (cN (i:=5) (d:=0) (ds':=[1,0,0,0,0,0,0,0,0,0]) nd rfl (.inr rfl) (fs0 (ao bj ai (fns aH hr (nX 0 (ac (fvc 3 rfl rfl) af rfl) rfl) rfl rfl))) rfl (by decide) (by decide) rfl (.inl rfl)) (ag (aY 6 [1,0,0,0,0,0,1,0,0,0] nd (bX (d':=1) (aL (d:=3) (c:=3) af rfl rfl (by decide)) (by decide)) rfl rfl rfl) (ag (aY 7 [1,0,0,0,0,0,1,1,0,0] nd (bX (d':=1) (aL (d:=3) (c:=3) af rfl rfl (by decide)) (by decide)) rfl rfl rfl) (ag (cc (ds1:=[1,0,0,0,0,0,1,1,0,0]) rfl (cO rfl T.range0 (ac (fvc 3 rfl rfl) af rfl) rfl) (aF (i:=8) (ds':=[1,0,0,0,0,0,1,1,0,0]) nd rfl (.inr rfl) rfl (by decide) (by decide) (.inl rfl)) (ag (bn (cQ (K:=K) (i:=6) (d:=1) rfl rfl (.inl rfl) rfl (fs0 (cq (gL (K:=K) rfl hr.units) (fns aH hr (nX 0 (ac (fs0 ai) af rfl) rfl) rfl rfl) ai (aX _))) (by decide) rfl rfl rfl rfl rfl rfl rfl rfl) rfl) (ag (fB (ds1:=[1,0,0,0,0,0,1,1,0,0]) (dE (i:=9) (ds':=[1,0,0,0,0,0,1,1,0,1]) (cd:=0) (d:=1) (dsi:=[0,1,0,0,0]) (lk:=[1,2,3,4]) nd rfl rfl (BlkOkC.of (ns:=["_law_number", "_law_pen_here", "_law_stands", "_law_way", "_law_stand"]) (js:=[none,some 0,some 3,some 4,some 8]) (N0:=dN) (sc0:=av cx) rfl rfl (by decide +kernel)) rfl (cO rfl T.range0 (ac (fv 1 rfl rfl) af rfl) rfl) (fun _ _ _ _ _=>(aF (i:=0) (ds':=[0,1,0,0,0]) (show (["_law_number", "_law_pen_here", "_law_stands", "_law_way", "_law_stand"]:List Str).Nodup by decide +kernel) rfl (.inl rfl) rfl (by decide) (by decide) (.inr rfl))) (fun _ _ _ _ _=>bI) (fun _ _ _ _ _=>(fns rh hr (nX 1 (ac (fvc 4 rfl rfl) (ac (fvc 2 rfl rfl) (ac (fvc 3 rfl rfl) af rfl) rfl) rfl) rfl) rfl rfl)) rfl rfl rfl (by decide) rfl (by decide) (by decide) rfl (fun _=>rfl)) rfl) (ag (aU (ds2:=[1,0,0,0,0,0,1,1,0,0]) (qpt (iM (fte rfl hr.units (fvc 4 rfl rfl) ai) (gJ (ba mW (fvc 8 rfl rfl) (fvc 5 rfl rfl) (aX _))))) (ag (eP (i:=6) (d:=1) (c:=0) rfl (.inl rfl) (fs0 ip) (fvc 8 rfl rfl) rfl (by decide) rfl rfl rfl (fun _=>rfl) rfl rfl rfl) (aK (fB (ds1:=[1,0,0,0,0,0,1,1,0,0]) (dE (i:=9) (ds':=[1,0,0,0,0,0,1,1,0,1]) (cd:=0) (d:=1) (dsi:=[0,0]) (lk:=[1]) nd rfl rfl (BlkOkC.of (ns:=["_law_goal_here", "_law_fence"]) (js:=[none,some 5]) (N0:=dN) (sc0:=av cx) rfl rfl (by decide +kernel)) rfl (dU (K:=K) rfl (fv 9 rfl rfl)) (fun _ _ _ _ _=>(aF (i:=0) (ds':=[0,0]) (show (["_law_goal_here", "_law_fence"]:List Str).Nodup by decide +kernel) rfl (.inl rfl) rfl (by decide) (by decide) (.inr rfl))) (fun _ _ _ _ _=>bI) (fun _ _ _ _ _=>(eo (gK (K:=K) rfl) (aL (d:=1) (c:=0) (ac (fv 0 rfl rfl) (ac bv af rfl) rfl) rfl rfl (by decide)) (fct sN T.int0 (by decide +kernel) (ac (fs0 (B0 (cq kS (fv 0 rfl rfl) bv (aX _)) (kj (cq AE (fv 0 rfl rfl) (fvc 1 rfl rfl) (aX _))))) af rfl) rfl rfl) (fun _ _=>rfl))) rfl rfl rfl (by decide) rfl (by decide) (by decide) rfl (fun _=>rfl)) rfl))) aN) (aK (bn (cQ (K:=K) (i:=7) (d:=1) rfl rfl (.inl rfl) rfl (fv 9 rfl rfl) (by decide) rfl rfl rfl rfl rfl rfl rfl rfl) rfl))))) PassesOwn.never (fun _=>rfl)) (frt (cP (d:=0) (c:=0) (ac (cA (ds0:=[1,0,0,0,0,0,0,1,0,0]) (bC (p:=false) (i:=6) rfl (.inl rfl) rfl rfl rfl) rfl) (ac (cA (ds0:=[1,0,0,0,0,0,0,0,0,0]) (bC (p:=false) (i:=7) rfl (.inl rfl) rfl rfl rfl) rfl) af rfl) rfl) rfl rfl) rfl)))))))
abbrev fZ:Stmt:=top 14
abbrev iZ:List Str:=["_law_pen_here", "_law_signs_here", "_law_many", "_law_goes", "_law_stand", "_law_row"]
def sc_law_ring:FnScope iZ ["_law_pen_here", "_law_signs_here"] (av fZ):=⟨rfl,rfl,rfl,by decide +kernel,rfl,by decide +kernel,by decide +kernel⟩
def jK:MS:=(aj (aq 5 (e2 qC (aO (ad (eC .none) ah)) (aa 1)))
 (aj (bY 5 (am ak (az 0 (ad (aa 1) ah))) (e2 bp (e2 aQ (aa 4) (eC (.int 1))) (e2 fL (aa 2) (eC (.int 1)))))
 (bh (bG 3 (eMv 5)))))
def jL:ME:=(e2 eqD (aa 0) (e2 fL (aa 1) (eC (.int 1))))
def ja:MS:=(aj (aq 2 (e2 aQ (eC (.int 2)) (am ak (az 0 (ad (eC (.int 7)) ah)))))
 (aj (aq 3 (aO ah))
 (aj (cC (bt (ad (aa 2) ah)) (gN 4) jK)
 (aj (iz 3 (pIx 3 (cJ 3) (am ak (az 0 (ad (e2 fL (aa 2) (eC (.int 1))) ah)))) (am ak (az 0 (ad (aa 1) ah))) (e2 fL (aa 2) (eC (.int 1))))
 (aj (bY 3 (e2 fL (aa 2) (eC (.int 1))) (e2 qC (aO (ad (eC .none) ah)) (aa 1)))
 (aI (cR (ad (eLC true (bt (ad (aa 2) ah)) (gN 0) cY jL [none,some 2]) (ad (aa 3) ah)))))))))
def cv:List D->Option (D × En):=fnF 4 [1,0] ja
def oN {k:Nat} (T:Bl mg)  (aH:Kn P w K mg base k "_law_take" ["_law_pen_here", "_law_most"] (spF K [1,0] 0 ak)) (F:Fun K "_law_ring" "_law_ring" fZ f fd):FnOk P w K mg base CX0 (k+1) f fd ["_law_pen_here", "_law_signs_here"] (spF K [1,0] 0 cv):=by
 have nd:=sc_law_ring.nd;refine F.okQ (N:=iZ) (b:=ja) (J:=⟨[0],[1,0,0,0,0,0],0,[]⟩) (ds0:=[1,0,0,0,0,0]) sc_law_ring rfl rfl rfl rfl fun cdv A outer s H E hr=>?_;exact (ag (cN (i:=2) (d:=0) (ds':=[1,0,0,0,0,0]) nd rfl (.inr rfl) (fs0 (ao bj ai (fns aH hr (fsl 0 (ac (fs0 ai) af rfl) rfl) rfl rfl))) rfl (by decide) (by decide) rfl (.inl rfl)) (ag (aY 3 [1,0,0,2,0,0] nd (bX (d':=2) (aL (d:=3) (c:=3) af rfl rfl (by decide)) (by decide)) rfl rfl rfl) (ag (cc (ds1:=[1,0,0,2,0,0]) rfl (cO rfl T.range0 (ac (fvc 2 rfl rfl) af rfl) rfl) (aF (i:=4) (ds':=[1,0,0,2,0,0]) nd rfl (.inl rfl) rfl (by decide) (by decide) (.inl rfl)) (ag (aY 5 [1,0,0,2,0,1] nd (ao (pO (K:=K) rfl) (aL (d:=3) (c:=3) (ac bv af rfl) rfl rfl (by decide)) (fv 1 rfl rfl)) rfl rfl rfl) (ag (eP (i:=5) (d:=1) (c:=0) rfl (.inl rfl) (fs0 (ao fE (ao bj (fv 4 rfl rfl) ai) (ao gu (fvc 2 rfl rfl) ai))) (fns aH hr (fsl 0 (ac (fv 1 rfl rfl) af rfl) rfl) rfl rfl) rfl (by decide) rfl rfl rfl (fun _=>rfl) rfl rfl rfl) (aK (bn (cQ (K:=K) (i:=3) (d:=2) rfl rfl (.inl rfl) rfl (lX (i:=5) (ds':=[1,0,0,2,0,0]) rfl (.inl rfl) rfl rfl rfl rfl) (by decide) rfl rfl rfl rfl rfl rfl rfl rfl) rfl)))) PassesOwn.never (fun _=>rfl)) (ag (oR (p:=false) (i:=3) (d:=2) rfl rfl (fs0 (ao gu (fvc 2 rfl rfl) ai)) (dS (i:=3) (d:=2) rfl rfl (dZ (i:=3) rfl (.inl rfl) rfl rfl) (fns aH hr (fsl 0 (ac (fs0 (ao gu (fvc 2 rfl rfl) ai)) af rfl) rfl) rfl rfl) (by decide) (by first | exact .inl rfl | exact .inr rfl) (fun _ _=>rfl)) (uV aH hr rfl (fsl 0 (ac (fv 1 rfl rfl) af rfl) rfl) (uo rfl) rfl rfl rfl rfl) (by decide) rfl (fun _=>rfl) rfl rfl rfl) (ag (eP (i:=3) (d:=2) (c:=1) rfl (.inl rfl) (ao (pO (K:=K) rfl) (aL (d:=3) (c:=3) (ac bv af rfl) rfl rfl (by decide)) (fv 1 rfl rfl)) (ao gu (fvc 2 rfl rfl) ai) rfl (by decide) rfl rfl rfl (fun _=>rfl) rfl rfl rfl) (frt (cP (d:=0) (c:=0) (ac (gb (cd:=3) (d:=3) (dsi:=[0,0]) (lk:=[1]) (BlkOkC.of (ns:=["_law_stand", "_law_many"]) (js:=[none,some 2]) (N0:=iZ) (sc0:=av fZ) rfl rfl (by decide +kernel)) rfl (cO rfl T.range0 (ac (fvc 2 rfl rfl) af rfl) rfl) (fun _ _ _ _ _=>(aF (i:=0) (ds':=[0,0]) (show (["_law_stand", "_law_many"]:List Str).Nodup by decide +kernel) rfl (.inl rfl) rfl (by decide) (by decide) (.inr rfl))) (fun _ _ _ _ _=>bI) (fun _ _ _ _ _=>(cq (gL (K:=K) rfl hr.units) (fv 0 rfl rfl) (ao gu (fvc 1 rfl rfl) ai) (aX _))) rfl rfl (by decide) rfl (fun _=>rfl)) (ac (cA (ds0:=[1,0,0,0,0,0]) (bC (p:=false) (i:=3) rfl (.inl rfl) rfl rfl rfl) rfl) af rfl) rfl) rfl rfl) rfl))))))
abbrev fY:Stmt:=top 15
abbrev iY:List Str:=["_law_got", "_law_due_here"]
def sc_law_same:FnScope iY ["_law_got", "_law_due_here"] (av fY):=⟨rfl,rfl,rfl,by decide +kernel,rfl,by decide +kernel,by decide +kernel⟩
def gD (self:List D->Option (D × En)):ME:=(am self (ad (aa 0) (ad (aa 1) ah)))
def cw (self:List D->Option (D × En)):MS:=(aj (sIf (tV (e1 (fN ["list", "tuple"]) (aa 1))) (aj (sIf (bOr (jC (tV (e1 (fN ["list", "tuple"]) (aa 0)))) (tV (e2 neD (e1 (aA "list") (aa 0)) (e1 (aA "list") (aa 1))))) (aI (eC (.bool false))) aW)
 (aI (jx (e2 eqD (eN br (ad (aa 0) ah)) (eN br (ad (aa 1) ah))) (eN ku (ad (eLC true (kP (ad (aa 0) (ad (aa 1) ah))) (gT (gsC (gN 0) (gsC (gN 1) gs0))) cY (gD self) [none,none]) ah))))) aW)
 (aj (sIf (bOr (tV (e2 isN (aa 1) (eC .none))) (tV (e1 (fN ["bool", "str"]) (aa 1)))) (aI (e2 eqD (eN kz (ad (aa 0) ah)) (eN kz (ad (aa 1) ah)))) aW)
 (aI (jx (e1 (aA "int") (aa 0)) (jx (l6 (e1 (aA "bool") (aa 0))) (e2 eqD (aa 0) (aa 1)))))))
def aT:Nat->List D->Option (D × En)
 | 0=>fun _=>none
 | j+1=>fnF 0 [0,0] (cw (aT j))
def cz {k:Nat} (T:Bl mg)  {self:List D->Option (D × En)} (i5:Kn P w K mg base k "_law_same" ["_law_got", "_law_due_here"] (spF K [0,0] 3 self)) (F:Fun K "_law_same" "_law_same" fY f fd):FnOk P w K mg base CX0 (k+1) f fd ["_law_got", "_law_due_here"] (spF K [0,0] 3 (fnF 0 [0,0] (cw self))):=by
 have nd:=sc_law_same.nd;refine F.okQ (N:=iY) (b:=cw self) (J:=⟨[],[0,0],3,[]⟩) (ds0:=[0,0]) sc_law_same rfl rfl rfl rfl fun cdv A outer s H E hr=>?_;exact (ag (aU (ds2:=[0,0]) (dY (jr (K:=K) (n1:="list") (n2:="tuple") rfl rfl T.isinstance0 rfl T.list0 (by decide +kernel) rfl T.tuple0 (by decide +kernel) (by decide) (fv 1 rfl rfl) (by decide) rfl (by decide) rfl rfl) (fun _=>rfl)) (ag (aU (ds2:=[0,0]) (qpt (ik (mB (dY (jr (K:=K) (n1:="list") (n2:="tuple") rfl rfl T.isinstance0 rfl T.list0 (by decide +kernel) rfl T.tuple0 (by decide +kernel) (by decide) (fv 0 rfl rfl) (by decide) rfl (by decide) rfl rfl) (fun _=>rfl))) (gt (ftn rfl hr.units (iN (K:=K) (n:="list") rfl rfl T.isinstance0 rfl T.list0 (by decide +kernel) (by decide) (fv 0 rfl rfl) (by decide) rfl rfl rfl rfl) (iN (K:=K) (n:="list") rfl rfl T.isinstance0 rfl T.list0 (by decide +kernel) (by decide) (fv 1 rfl rfl) (by decide) rfl rfl rfl rfl))))) (frt ip rfl) aN) (frt (kl (cq (gL (K:=K) rfl hr.units) (fln rfl T.len0 (ac (fv 0 rfl rfl) af rfl) rfl rfl) (fln rfl T.len0 (ac (fv 1 rfl rfl) af rfl) rfl rfl) (aX _)) (kj (fcb (Fy (K:=K) rfl rfl) T.all0 (by decide +kernel) (ac (fs0 (gb (cd:=3) (d:=3) (dsi:=[0,0]) (lk:=[]) (BlkOkC.of (ns:=["_law_one", "_law_other"]) (js:=[none,none]) (N0:=iY) (sc0:=av fY) rfl rfl (by decide +kernel)) rfl (sR (K:=K) rfl rfl T.zip0 (ac (fv 0 rfl rfl) (ac (fv 1 rfl rfl) af rfl) rfl) rfl rfl) (fun _ _ _ _ _=>(gM (K:=K) rfl rfl (bJ (aF (i:=0) (ds':=[0,0]) (show (["_law_one", "_law_other"]:List Str).Nodup by decide +kernel) rfl (.inl rfl) rfl (by decide) (by decide) (.inr rfl)) (bJ (aF (i:=1) (ds':=[0,0]) (show (["_law_one", "_law_other"]:List Str).Nodup by decide +kernel) rfl (.inl rfl) rfl (by decide) (by decide) (.inr rfl)) fW rfl) rfl) jT rfl rfl)) (fun _ _ _ _ _=>bI) (fun _ _ _ _ _=>(fnn i5 hr (ac (fv 0 rfl rfl) (ac (fv 1 rfl rfl) af rfl) rfl) rfl rfl)) rfl rfl (by decide) rfl (fun _=>rfl))) af rfl) rfl rfl))) rfl)) aN) (ag (aU (ds2:=[0,0]) (qpt (ik (ba kS (fv 1 rfl rfl) bv (aX _)) (gt (dY (jr (K:=K) (n1:="bool") (n2:="str") rfl rfl T.isinstance0 rfl T.bool0 (by decide +kernel) rfl T.str0 (by decide +kernel) (by decide) (fv 1 rfl rfl) (by decide) rfl (by decide) rfl rfl) (fun _=>rfl))))) (frt (cq (gL (K:=K) rfl hr.units) (fcb (nZ (K:=K) rfl hr.gd hr.units) T.repr0 (by decide +kernel) (ac (fv 0 rfl rfl) af rfl) rfl rfl) (fcb (nZ (K:=K) rfl hr.gd hr.units) T.repr0 (by decide +kernel) (ac (fv 1 rfl rfl) af rfl) rfl rfl) (aX _)) rfl) aN) (frt (kl (iN (K:=K) (n:="int") rfl rfl T.isinstance0 rfl T.int0 (by decide +kernel) (by decide) (fv 0 rfl rfl) (by decide) rfl rfl rfl rfl) (kl (uT (iN (K:=K) (n:="bool") rfl rfl T.isinstance0 rfl T.bool0 (by decide +kernel) (by decide) (fv 0 rfl rfl) (by decide) rfl rfl rfl rfl)) (kj (cq (gL (K:=K) rfl hr.units) (fv 0 rfl rfl) (fv 1 rfl rfl) (aX _))))) rfl)))
abbrev dH:Stmt:=top 16
abbrev fu:List Str:=["_law_pen_here", "_law_many", "_law_goes"]
def sc_law_chain:FnScope fu ["_law_pen_here"] (av dH):=⟨rfl,rfl,rfl,by decide +kernel,rfl,by decide +kernel,by decide +kernel⟩
def jf:ME:=(aO (ad (e2 aQ (aa 0) (eC (.int 1))) ah))
def je:ME:=(e2 eqD (aa 0) (e2 fL (aa 1) (eC (.int 1))))
def ic:MS:=(aj (aq 1 (e2 aQ (eC (.int 100)) (am ak (az 0 (ad (eC (.int 900)) ah)))))
 (aj (aq 2 (eLC true (bt (ad (aa 1) ah)) (gN 0) cY jf [none]))
 (aj (bY 2 (e2 fL (aa 1) (eC (.int 1))) (aO (ad (e2 ixA (aO (ad (eC .none) (ad (am ak (az 0 (ad (e2 bZ (aa 1) (eC (.int 2))) ah))) ah))) (am ak (az 0 (ad (eC (.int 2)) ah)))) ah)))
 (aI (cR (ad (eLC true (bt (ad (aa 1) ah)) (gN 0) cY je [none,some 1]) (ad (aa 2) ah)))))))
def cB:List D->Option (D × En):=fnF 2 [1] ic
def nw {k:Nat} (T:Bl mg)  (aH:Kn P w K mg base k "_law_take" ["_law_pen_here", "_law_most"] (spF K [1,0] 0 ak)) (F:Fun K "_law_chain" "_law_chain" dH f fd):FnOk P w K mg base CX0 (k+1) f fd ["_law_pen_here"] (spF K [1] 0 cB):=by
 have nd:=sc_law_chain.nd;refine F.okQ (N:=fu) (b:=ic) (J:=⟨[0],[1,0,0],0,[]⟩) (ds0:=[1,0,0]) sc_law_chain rfl rfl rfl rfl fun cdv A outer s H E hr=>?_;exact (ag (cN (i:=1) (d:=0) (ds':=[1,0,0]) nd rfl (.inr rfl) (fs0 (ao bj ai (fns aH hr (fsl 0 (ac (fs0 ai) af rfl) rfl) rfl rfl))) rfl (by decide) (by decide) rfl (.inl rfl)) (ag (fB (ds1:=[1,0,1]) (dE (i:=2) (ds':=[1,0,3]) (cd:=3) (d:=3) (dsi:=[0]) (lk:=[]) nd rfl rfl (BlkOkC.of (ns:=["_law_stand"]) (js:=[none]) (N0:=fu) (sc0:=av dH) rfl rfl (by decide +kernel)) rfl (cO rfl T.range0 (ac (fvc 1 rfl rfl) af rfl) rfl) (fun _ _ _ _ _=>(aF (i:=0) (ds':=[0]) (show (["_law_stand"]:List Str).Nodup by decide +kernel) rfl (.inl rfl) rfl (by decide) (by decide) (.inr rfl))) (fun _ _ _ _ _=>bI) (fun _ _ _ _ _=>(aL (d:=3) (c:=3) (ac (ao bj (fv 0 rfl rfl) ai) af rfl) rfl rfl (by decide))) rfl rfl rfl (by decide) rfl (by decide) (by decide) rfl (fun _=>rfl)) rfl) (ag (eP (i:=2) (d:=1) (c:=0) rfl (.inl rfl) (fs0 (aL (d:=1) (c:=0) (ac (eo (gK (K:=K) rfl) (aL (d:=1) (c:=0) (ac bv (ac (fns aH hr (fsl 0 (ac (fs0 (ao lW (fvc 1 rfl rfl) ai)) af rfl) rfl) rfl rfl) af rfl) rfl) rfl rfl (by decide)) (fns aH hr (fsl 0 (ac (fs0 ai) af rfl) rfl) rfl rfl) (fun _ _=>rfl)) af rfl) rfl rfl (by decide))) (ao gu (fvc 1 rfl rfl) ai) rfl (by decide) rfl rfl rfl (fun _=>rfl) rfl rfl rfl) (frt (cP (d:=0) (c:=0) (ac (gb (cd:=3) (d:=3) (dsi:=[0,0]) (lk:=[1]) (BlkOkC.of (ns:=["_law_stand", "_law_many"]) (js:=[none,some 1]) (N0:=fu) (sc0:=av dH) rfl rfl (by decide +kernel)) rfl (cO rfl T.range0 (ac (fvc 1 rfl rfl) af rfl) rfl) (fun _ _ _ _ _=>(aF (i:=0) (ds':=[0,0]) (show (["_law_stand", "_law_many"]:List Str).Nodup by decide +kernel) rfl (.inl rfl) rfl (by decide) (by decide) (.inr rfl))) (fun _ _ _ _ _=>bI) (fun _ _ _ _ _=>(cq (gL (K:=K) rfl hr.units) (fv 0 rfl rfl) (ao gu (fvc 1 rfl rfl) ai) (aX _))) rfl rfl (by decide) rfl (fun _=>rfl)) (ac (cA (ds0:=[1,0,0]) (bC (p:=false) (i:=2) rfl (.inl rfl) rfl rfl rfl) rfl) af rfl) rfl) rfl rfl) rfl))))
abbrev eB:Stmt:=top 17
abbrev fJ:List Str:=["_law_machine_here", "_law_rows", "_law_wait", "_law_at", "_law_here", "_law_number", "_law_goal_here", "_law_ends", "_law_longest", "_law_layers", "_law_stand"]
def sc_law_due:FnScope fJ ["_law_machine_here"] (av eB):=⟨rfl,rfl,rfl,by decide +kernel,rfl,by decide +kernel,by decide +kernel⟩
def dI:MS:=(sIf (cu (tV (e2 gi (aa 6) (eC .none))) (tV (e2 fG (aa 6) (aa 1)))) (aj (bE 1 (aa 6) (e2 jD (aP 1 (aa 4)) (aO (ad (aa 5) ah))))
 (bh (bG 2 (aa 6)))) aW)
def ia:MS:=(aj (aq 4 (dW 2 (aa 3)))
 (aj (cC (ij (ad (e2 ixA (e2 ixA (aa 0) (eC (.int 1))) (aa 4)) ah)) (gT (gsC (gN 5) (gsC (gN 6) gs0))) dI)
 (aq 3 (e2 aQ (aa 3) (eC (.int 1))))))
def ft:MT:=(tV (e2 ltI (aa 3) (eN br (ad (aa 2) ah))))
def j3:MT:=(tV (e2 ixA (e2 ixA (aa 1) (eC (.int 0))) (aa 0)))
def j8:ME:=(aa 0)
def j7:ME:=(eN br (ad (aP 1 (aa 0)) ah))
def ib:ME:=(aO ah)
def fw:MS:=(sIf (tV (e2 leI (eN br (ad (aP 1 (aa 10)) ah)) (aa 8))) (bh (b8 9 (pIx 9 (cJ 9) (eN br (ad (aP 1 (aa 10)) ah))) (aa 10))) aW)
noncomputable def jN:MS:=(aj (aq 1 (fq [((eC (.int 0)),(aO ah))]))
 (aj (aq 2 (aO (ad (eC (.int 0)) ah)))
 (aj (aq 3 (eC (.int 0)))
 (aj (bN ft ia)
 (aj (aq 7 (eLC true (cE (aa 2)) (gN 0) j3 j8 [none,some 0]))
 (aj (aq 8 (eN qE (ad (eLC true (cE (aa 2)) (gN 0) cY j7 [none,some 1]) ah)))
 (aj (sIf (tV (e2 neD (aa 7) (aO ah))) (aq 8 (eN br (ad (aP 1 (e2 ixA (aa 7) (eC (.int 0)))) ah))) aW)
 (aj (aq 9 (eLC true (bt (ad (e2 aQ (aa 8) (eC (.int 1))) ah)) (gN 0) cY ib [none]))
 (aj (cC (cE (eN eE (ad (aa 2) ah))) (gN 10) fw)
 (aj (sIf (tV (e2 eqD (aa 7) (aO ah))) (aI (cR (ad (eC (.str "none")) (ad (aa 9) ah)))) aW)
 (aI (cR (ad (eC (.str "row")) (ad (aP 1 (e2 ixA (aa 7) (eC (.int 0)))) (ad (aa 9) ah)))))))))))))))
noncomputable def c9:List D->Option (D × En):=fnF 10 [0] jN
def qB {k:Nat} (T:Bl mg)   (F:Fun K "_law_due" "_law_due" eB f fd):FnOk P w K mg base CX0 (k+1) f fd ["_law_machine_here"] (spF K [0] 0 c9):=by
 have nd:=sc_law_due.nd;refine F.okQ (N:=fJ) (b:=jN) (J:=⟨[],[0,0,0,0,0,0,0,0,0,0,0],0,[]⟩) (ds0:=[0,0,0,0,0,0,0,0,0,0,0]) sc_law_due rfl rfl rfl rfl fun cdv A outer s H E hr=>?_;exact (ag (cN (i:=1) (d:=1) (ds':=[0,1,0,0,0,0,0,0,0,0,0]) nd rfl (.inr rfl) (ju (fs:=[((eC (.int 0)),(aO ah))]) (fC ai (fs0 (aL (d:=3) (c:=3) af rfl rfl (by decide))) kh) rfl rfl (fun z=>nomatch z) (by decide)) rfl (by decide) (by decide) rfl (.inl rfl)) (ag (aY 2 [0,1,1,0,0,0,0,0,0,0,0] nd (bX (d':=1) (aL (d:=3) (c:=3) (ac ai af rfl) rfl rfl (by decide)) (by decide)) rfl rfl rfl) (ag (aY 3 [0,1,1,0,0,0,0,0,0,0,0] nd (fs0 ai) rfl rfl rfl) (ag (gZ (ds:=[0,1,1,0,0,0,0,0,0,0,0]) (cM (ds0:=[0,1,0,0,0,0,0,0,0,0,0]) (ba mW (fv 3 rfl rfl) (fln rfl T.len0 (ac (fv 2 rfl rfl) af rfl) rfl rfl) (aX _)) rfl) (ag (aY 4 [0,1,1,0,0,0,0,0,0,0,0] nd (n9 (K:=K) (i:=2) rfl rfl (.inl rfl) rfl (fv 3 rfl rfl) (fun _ _=>rfl) rfl rfl) rfl rfl rfl) (ag (cc (ds1:=[0,1,1,0,0,0,0,0,0,0,0]) rfl (mD (K:=K) rfl rfl T.enumerate0 (ac (eo (gK (K:=K) rfl) (fxi rfl (fvc 0 rfl rfl)) (fv 4 rfl rfl) (fun _ _=>rfl)) af rfl) rfl) (gM (K:=K) rfl rfl (bJ (aF (i:=5) (ds':=[0,1,1,0,0,0,0,0,0,0,0]) nd rfl (.inl rfl) rfl (by decide) (by decide) (.inl rfl)) (bJ (aF (i:=6) (ds':=[0,1,1,0,0,0,0,0,0,0,0]) nd rfl (.inl rfl) rfl (by decide) (by decide) (.inl rfl)) fW rfl) rfl) jT rfl rfl) (aK (aU (ds2:=[0,1,1,0,0,0,0,0,0,0,0]) (cM (ds0:=[0,0,1,0,0,0,0,0,0,0,0]) (qpt (iM (ba lV (fv 6 rfl rfl) bv (aX _)) (gJ (mC (bo hr) (fv 6 rfl rfl) (fvc 1 rfl rfl) (by with_unfolding_all rfl))))) rfl) (ag (di (i:=1) (bo hr) rfl (.inr (.inl rfl)) (fs0 (ao (pQ (K:=K) rfl) (bc (i:=1) (bo hr) rfl (.inr (.inl rfl)) rfl (fv 4 rfl rfl) (fun _ _=>rfl) rfl rfl) (aL (d:=1) (c:=0) (ac (fv 5 rfl rfl) af rfl) rfl rfl (by decide)))) (fv 6 rfl rfl) rfl rfl rfl rfl) (aK (bn (cQ (K:=K) (i:=2) (d:=1) rfl rfl (.inl rfl) rfl (fv 6 rfl rfl) (by decide) rfl rfl rfl rfl rfl rfl rfl rfl) rfl))) aN)) PassesOwn.never (fun _=>rfl)) (aK (aY 3 [0,1,1,0,0,0,0,0,0,0,0] nd (fs0 (ao bj (fv 3 rfl rfl) ai)) rfl rfl rfl)))) PassesOwn.never) (ag (fB (ds1:=[0,1,0,0,0,0,0,0,0,0,0]) (dE (i:=7) (ds':=[0,1,0,0,0,0,0,1,0,0,0]) (cd:=0) (d:=1) (dsi:=[0,0]) (lk:=[1]) nd rfl rfl (BlkOkC.of (ns:=["_law_stand", "_law_machine_here"]) (js:=[none,some 0]) (N0:=fJ) (sc0:=av eB) rfl rfl (by decide +kernel)) rfl (dU (K:=K) rfl (cA (ds0:=[0,1,0,0,0,0,0,0,0,0,0]) (bC (p:=false) (i:=2) rfl (.inl rfl) rfl rfl rfl) rfl)) (fun _ _ _ _ _=>(aF (i:=0) (ds':=[0,0]) (show (["_law_stand", "_law_machine_here"]:List Str).Nodup by decide +kernel) rfl (.inl rfl) rfl (by decide) (by decide) (.inr rfl))) (fun _ _ _ _ _=>(sE (dY (eo (gK (K:=K) rfl) (fxi rfl (fvc 1 rfl rfl)) (fv 0 rfl rfl) (fun _ _=>rfl)) (fun _=>rfl)))) (fun _ _ _ _ _=>(fv 0 rfl rfl)) rfl rfl rfl (by decide) rfl (by decide) (by decide) rfl (fun _=>rfl)) rfl) (ag (aY 8 [0,1,0,0,0,0,0,0,0,0,0] nd (fs0 (fcb (BO (K:=K) rfl rfl) T.max0 (by decide +kernel) (ac (fs0 (gb (cd:=3) (d:=3) (dsi:=[0,1]) (lk:=[1]) (BlkOkC.of (ns:=["_law_stand", "_law_rows"]) (js:=[none,some 1]) (N0:=fJ) (sc0:=av eB) rfl rfl (by decide +kernel)) rfl (dU (K:=K) rfl (fv 2 rfl rfl)) (fun _ _ _ _ _=>(aF (i:=0) (ds':=[0,1]) (show (["_law_stand", "_law_rows"]:List Str).Nodup by decide +kernel) rfl (.inl rfl) rfl (by decide) (by decide) (.inr rfl))) (fun _ _ _ _ _=>bI) (fun _ _ _ _ _=>(fln rfl T.len0 (ac (bc (i:=1) (bo hr) rfl (.inr (.inl rfl)) rfl (fv 0 rfl rfl) (fun _ _=>rfl) rfl rfl) af rfl) rfl rfl)) rfl rfl (by decide) rfl (fun _=>rfl))) af rfl) rfl rfl)) rfl rfl rfl) (ag (aU (ds2:=[0,1,0,0,0,0,0,0,0,0,0]) (ftn rfl hr.units (fv 7 rfl rfl) (aL (d:=3) (c:=3) af rfl rfl (by decide))) (aK (aY 8 [0,1,0,0,0,0,0,0,0,0,0] nd (fs0 (fln rfl T.len0 (ac (bc (i:=1) (bo hr) rfl (.inr (.inl rfl)) rfl (fxi rfl (fv 7 rfl rfl)) (fun _ _=>rfl) rfl rfl) af rfl) rfl rfl)) rfl rfl rfl)) aN) (ag (fB (ds1:=[0,1,0,0,0,0,0,0,0,2,0]) (dE (i:=9) (ds':=[0,1,0,0,0,0,0,0,0,3,0]) (cd:=3) (d:=3) (dsi:=[0]) (lk:=[]) nd rfl rfl (BlkOkC.of (ns:=["_law_size"]) (js:=[none]) (N0:=fJ) (sc0:=av eB) rfl rfl (by decide +kernel)) rfl (cO rfl T.range0 (ac (fs0 (ao bj (fv 8 rfl rfl) ai)) af rfl) rfl) (fun _ _ _ _ _=>(aF (i:=0) (ds':=[0]) (show (["_law_size"]:List Str).Nodup by decide +kernel) rfl (.inl rfl) rfl (by decide) (by decide) (.inr rfl))) (fun _ _ _ _ _=>bI) (fun _ _ _ _ _=>(aL (d:=3) (c:=3) af rfl rfl (by decide))) rfl rfl rfl (by decide) rfl (by decide) (by decide) rfl (fun _=>rfl)) rfl) (ag (cc (ds1:=[0,1,0,0,0,0,0,0,0,2,0]) rfl (dU (K:=K) rfl (fs0 (fcb (nY (K:=K) rfl) T.sorted0 (by decide +kernel) (ac (fv 2 rfl rfl) af rfl) rfl rfl))) (aF (i:=10) (ds':=[0,1,0,0,0,0,0,0,0,2,0]) nd rfl (.inl rfl) rfl (by decide) (by decide) (.inl rfl)) (aK (aU (ds2:=[0,1,0,0,0,0,0,0,0,2,0]) (ba AD (fln rfl T.len0 (ac (bc (i:=1) (bo hr) rfl (.inr (.inl rfl)) rfl (fv 10 rfl rfl) (fun _ _=>rfl) rfl rfl) af rfl) rfl rfl) (fv 8 rfl rfl) (aX _)) (aK (bn (fF (K:=K) (i:=9) (d:=2) rfl rfl rfl (dS (i:=9) (d:=2) rfl rfl (dZ (i:=9) rfl (.inl rfl) rfl rfl) (fln rfl T.len0 (ac (bc (i:=1) (bo hr) rfl (.inr (.inl rfl)) rfl (fv 10 rfl rfl) (fun _ _=>rfl) rfl rfl) af rfl) rfl rfl) (by decide) (by first | exact .inl rfl | exact .inr rfl) (fun _ _=>rfl)) (fv 10 rfl rfl) (by decide) rfl rfl rfl rfl rfl rfl) rfl)) aN)) PassesOwn.never (fun _=>rfl)) (ag (aU (ds2:=[0,1,0,0,0,0,0,0,0,2,0]) (fte rfl hr.units (fv 7 rfl rfl) (aL (d:=3) (c:=3) af rfl rfl (by decide))) (frt (cP (d:=0) (c:=0) (ac bu (ac (cA (ds0:=[0,1,0,0,0,0,0,0,0,0,0]) (bC (p:=false) (i:=9) rfl (.inl rfl) rfl rfl rfl) rfl) af rfl) rfl) rfl rfl) rfl) aN) (frt (cP (d:=0) (c:=0) (ac bu (ac (bc (i:=1) (bo hr) rfl (.inr (.inl rfl)) rfl (fxi rfl (fv 7 rfl rfl)) (fun _ _=>rfl) rfl rfl) (ac (cA (ds0:=[0,1,0,0,0,0,0,0,0,0,0]) (bC (p:=false) (i:=9) rfl (.inl rfl) rfl rfl rfl) rfl) af rfl) rfl) rfl) rfl rfl) rfl)))))))))))
abbrev jG:Stmt:=top 18
abbrev ve:List Str:=["_law_script", "_law_pen_here", "_law_size", "_law_machines", "_law_machine_here", "_law_handed", "_law_told"]
def sclaw:FnScope ve ["_law_script"] (av jG):=⟨rfl,rfl,rfl,by decide +kernel,rfl,by decide +kernel,by decide +kernel⟩
noncomputable def oE:ME:=(eN gI (ad (aa 0) ah))
noncomputable def jI:MS:=(aj (aq 5 (cR (ad (eN gI (ad (e2 ixA (aa 4) (eC (.int 0))) ah)) (ad (eLC true (cE (e2 ixA (aa 4) (eC (.int 1)))) (gN 0) cY oE [none]) ah))))
 (aj (aq 6 (am cZ (ad (aa 5) ah)))
 (aj (sIf (bOr (jC (tV (am (aT 6) (ad (aa 6) (ad (am c9 (ad (aa 4) ah)) ah))))) (tV (e2 neD (aa 5) (aa 4)))) (aI (eC (.bool false))) aW)
 (aj (bh (b8 6 (pIx 6 (pIx 6 (cJ 6) (e1 lM (eC (.int 1)))) (eC (.int 0))) (eC (.int 1))))
 (aj (bh (b8 6 (pIx 6 (cJ 6) (e1 lM (eC (.int 1)))) (aO ah)))
 (aj (bh (b8 6 (pIx 6 (cJ 6) (eC (.int 1))) (eC (.int 0))))
 (sIf (tV (e2 neD (aa 5) (aa 4))) (aI (eC (.bool false))) aW)))))))
noncomputable def vg:MS:=(aj (aq 1 (am bK (ad (aa 0) (ad (eC (.int 0)) ah))))
 (aj (aq 2 (am ak (az 1 (ad (eC (.int 16)) ah))))
 (aj (aq 3 (aO (ad (am bd (az 1 (ad (am bq (az 1 ah)) (ad (e2 ixA (aO (ad (eC (.int 9)) (ad (eC (.int 30)) ah))) (eN gp (ad (e2 eqD (aa 2) (eC (.int 9))) ah))) ah)))) ah)))
 (aj (sIf (tV (e2 eqD (aa 2) (eC (.int 10)))) (aq 3 (aO (ad (am cB (az 1 ah)) ah))) aW)
 (aj (aq 1 (am bK (ad (aa 0) (ad (eC (.int 31)) ah))))
 (aj (bh (bG 3 (am bd (az 1 (ad (am bq (az 1 ah)) (ad (eC (.int 6)) ah))))))
 (aj (sIf (tV (e2 eqD (am ak (az 1 (ad (eC (.int 3)) ah))) (eC (.int 0)))) (bY 3 (eC (.int 1)) (am cv (az 1 (ad (e2 aQ (eC (.int 1)) (am ak (az 1 (ad (eC (.int 3)) ah)))) ah)))) aW)
 (aj (cC (cE (e2 jD (aa 3) (aa 3))) (gN 4) jI)
 (aI (eC (.bool true)))))))))))
noncomputable def rj:List D->Option (D × En):=fnF 6 [0] vg
def GJ {k:Nat} (T:Bl mg)  (mO:Kn P w K mg base k "_law_pen" ["_law_script", "_law_first"] (spF K [0,0] 1 bK)) (aH:Kn P w K mg base k "_law_take" ["_law_pen_here", "_law_most"] (spF K [1,0] 0 ak)) (jd:Kn P w K mg base k "_law_machine" ["_law_pen_here", "_law_signs_here", "_law_most"] (spF K [1,0,0] 0 bd)) (rg:Kn P w K mg base k "_law_ring" ["_law_pen_here", "_law_signs_here"] (spF K [1,0] 0 cv)) (tL:Kn P w K mg base k "shortest" ["machine"] (spF K [0] 3 cZ)) (j6:Kn P w K mg base k "_law_signs" ["_law_pen_here"] (spF K [1] 3 bq)) (oX:Kn P w K mg base k "_law_chain" ["_law_pen_here"] (spF K [1] 0 cB)) (i5:Kn P w K mg base k "_law_same" ["_law_got", "_law_due_here"] (spF K [0,0] 3 (aT 6))) (tM:Kn P w K mg base k "_law_due" ["_law_machine_here"] (spF K [0] 0 c9)) (F:Fun K "law" "law" jG f fd):FnOk P w K mg base CX0 (k+1) f fd ["_law_script"] (spF K [0] 3 rj):=by
 have nd:=sclaw.nd;refine F.okQ (N:=ve) (b:=vg) (J:=⟨[],[0,0,0,0,0,0,0],3,[]⟩) (ds0:=[0,0,0,0,0,0,0]) sclaw rfl rfl rfl rfl fun cdv A outer s H E hr=>?_;exact (ag (aY 1 [0,1,0,0,0,0,0] nd (fnn mO hr (ac (fv 0 rfl rfl) (ac (fs0 ai) af rfl) rfl) rfl rfl) rfl rfl rfl) (ag (aY 2 [0,1,0,0,0,0,0] nd (fns aH hr (fsl 1 (ac (fs0 ai) af rfl) rfl) rfl rfl) rfl rfl rfl) (ag (aY 3 [0,1,0,1,0,0,0] nd (aL (d:=1) (c:=0) (ac (fns jd hr (fsl 1 (ac (fs0 (fns j6 hr (fsl 1 af rfl) rfl rfl)) (ac (fs0 (n8 (K:=K) rfl (aL (d:=3) (c:=3) (ac ai (ac ai af rfl) rfl) rfl rfl (by decide)) (fct sN T.int0 (by decide +kernel) (ac (fs0 (cq (gL (K:=K) rfl hr.units) (fv 2 rfl rfl) ai (aX _))) af rfl) rfl rfl) (fun _ _=>rfl) (by decide))) af rfl) rfl) rfl) rfl rfl) af rfl) rfl rfl (by decide)) rfl rfl rfl) (ag (aU (ds2:=[0,1,0,1,0,0,0]) (fte rfl hr.units (fv 2 rfl rfl) ai) (aK (aY 3 [0,1,0,1,0,0,0] nd (aL (d:=1) (c:=0) (ac (fns oX hr (fsl 1 af rfl) rfl rfl) af rfl) rfl rfl (by decide)) rfl rfl rfl)) aN) (ag (aY 1 [0,1,0,1,0,0,0] nd (fnn mO hr (ac (fv 0 rfl rfl) (ac (fs0 ai) af rfl) rfl) rfl rfl) rfl rfl rfl) (ag (bn (cQ (K:=K) (i:=3) (d:=1) rfl rfl (.inl rfl) rfl (fns jd hr (fsl 1 (ac (fs0 (fns j6 hr (fsl 1 af rfl) rfl rfl)) (ac (fs0 ai) af rfl) rfl) rfl) rfl rfl) (by decide) rfl rfl rfl rfl rfl rfl rfl rfl) rfl) (ag (aU (ds2:=[0,1,0,1,0,0,0]) (fte rfl hr.units (fns aH hr (fsl 1 (ac (fs0 ai) af rfl) rfl) rfl rfl) ai) (aK (eP (i:=3) (d:=1) (c:=0) rfl (.inl rfl) (fns rg hr (fsl 1 (ac (fs0 (ao bj ai (fns aH hr (fsl 1 (ac (fs0 ai) af rfl) rfl) rfl rfl))) af rfl) rfl) rfl rfl) ai rfl (by decide) rfl rfl rfl (fun _=>rfl) rfl rfl rfl)) aN) (ag (cc (ds1:=[0,1,0,0,0,0,0]) rfl (dU (K:=K) rfl (fs0 (ao (pQ (K:=K) rfl) (cA (ds0:=[0,1,0,0,0,0,0]) (bC (p:=false) (i:=3) rfl (.inl rfl) rfl rfl rfl) rfl) (fv 3 rfl rfl)))) (aF (i:=4) (ds':=[0,1,0,0,0,0,0]) nd rfl (.inl rfl) rfl (by decide) (by decide) (.inl rfl)) (sF (ds2:=[0,1,0,0,0,0,3]) (ag (aY 5 [0,1,0,0,0,0,0] nd (fs0 (cP (d:=2) (c:=1) (ac (fct (pP (K:=K) rfl rfl) T.list0 (by decide +kernel) (ac (fxi rfl (fv 4 rfl rfl)) af rfl) rfl rfl) (ac (gb (cd:=1) (d:=2) (dsi:=[0]) (lk:=[]) (BlkOkC.of (ns:=["_law_row"]) (js:=[none]) (N0:=ve) (sc0:=av jG) rfl rfl (by decide +kernel)) rfl (dU (K:=K) rfl (fxi rfl (fv 4 rfl rfl))) (fun _ _ _ _ _=>(aF (i:=0) (ds':=[0]) (show (["_law_row"]:List Str).Nodup by decide +kernel) rfl (.inl rfl) rfl (by decide) (by decide) (.inr rfl))) (fun _ _ _ _ _=>bI) (fun _ _ _ _ _=>(fct (pP (K:=K) rfl rfl) T.list0 (by decide +kernel) (ac (fv 0 rfl rfl) af rfl) rfl rfl)) rfl rfl (by decide) rfl (fun _=>rfl)) af rfl) rfl) rfl rfl)) rfl rfl rfl) (ag (aY 6 [0,1,0,0,0,0,3] nd (fnn tL hr (ac (fv 5 rfl rfl) af rfl) rfl rfl) rfl rfl rfl) (ag (aU (ds2:=[0,1,0,0,0,0,3]) (cM (ds0:=[0,1,0,0,0,0,0]) (qpt (ik (mB (dY (fnn i5 hr (ac (fv 6 rfl rfl) (ac (fnn tM hr (ac (fv 4 rfl rfl) af rfl) rfl rfl) af rfl) rfl) rfl rfl) (fun _=>rfl))) (gt (ftn rfl hr.units (fv 5 rfl rfl) (fv 4 rfl rfl))))) rfl) (frt ip rfl) aN) (ag (bn (fF (K:=K) (i:=6) (d:=3) rfl rfl rfl (dS (i:=6) (d:=3) rfl rfl (dS (i:=6) (d:=3) rfl rfl (dZ (i:=6) rfl (.inl rfl) rfl rfl) (pT sM ai) (by decide) (by first | exact .inl rfl | exact .inr rfl) (fun _ _=>rfl)) ai (by decide) (by first | exact .inl rfl | exact .inr rfl) (fun _ _=>rfl)) ai (by decide) rfl rfl rfl rfl rfl rfl) rfl) (ag (bn (fF (K:=K) (i:=6) (d:=3) rfl rfl rfl (dS (i:=6) (d:=3) rfl rfl (dZ (i:=6) rfl (.inl rfl) rfl rfl) (pT sM ai) (by decide) (by first | exact .inl rfl | exact .inr rfl) (fun _ _=>rfl)) (aL (d:=3) (c:=3) af rfl rfl (by decide)) (by decide) rfl rfl rfl rfl rfl rfl) rfl) (ag (bn (fF (K:=K) (i:=6) (d:=3) rfl rfl rfl (dS (i:=6) (d:=3) rfl rfl (dZ (i:=6) rfl (.inl rfl) rfl rfl) ai (by decide) (by first | exact .inl rfl | exact .inr rfl) (fun _ _=>rfl)) ai (by decide) rfl rfl rfl rfl rfl rfl) rfl) (aK (aU (ds2:=[0,1,0,0,0,0,3]) (ftn rfl hr.units (fv 5 rfl rfl) (fv 4 rfl rfl)) (frt ip rfl) aN)))))))) rfl) PassesOwn.never (fun _=>rfl)) (frt ip rfl)))))))))
end
end W32
namespace L2
open PySem PySem.Spec PyProof.Rows
structure W {α:Type} (x:Option α) (Q:α->Prop):Prop where
 ex:∃ a,x=some a/\Q a
def ax {α:Type} (a:α) (Q:α->Prop):W (some a) Q=Q a:=propext ⟨fun ⟨b,e,h⟩=>(zat e) ▸ h,fun h=>⟨a,rfl,h⟩⟩
def bw {α:Type} (Q:α->Prop):W (none:Option α) Q=False:=propext ⟨(fun ⟨b,e,h⟩=>by cases e),(fun h=>h.elim)⟩
def W.use {α:Type} {x:Option α} {P Q:α->Prop} (h:W x P) (k:∀ a,P a->Q a):W x Q :=
 let ⟨a,e,h⟩:=h.ex
 ⟨a,e,k a h⟩
def W.of {α:Type} {x:Option α} {P:α->Prop} {a:α} (e:x=some a) (h:P a):W x P:=⟨a,e,h⟩
def au {α β:Type} (x:Option α) (f:α->Option β) (Q:β->Prop):W (x.bind f) Q=W x (fun a=>W (f a) Q):=by
 cases x with
 | none=>show W none _=_; rw [bw,bw]
 | some a=>show W (f a) Q=_; rw [ax]
def bH {α β:Type} (x:Option α) (f:α->β) (Q:β->Prop):W (x.map f) Q=W x (fun a=>Q (f a)):=by
 cases x with
 | none=>show W none _=_; rw [bw,bw]
 | some a=>show W (some (f a)) Q=_; rw [ax,ax]
def qY {α:Type} (c:Prop) [Decidable c] (a:α) (Q:α->Prop):W (grd c a) Q=(c/\Q a):=by
 unfold grd;by_cases h:c
 ·rw [if_pos h,ax]; exact propext ⟨fun z=>⟨h,z⟩,fun z=>z.2⟩
 ·rw [if_neg h,bw]; exact propext ⟨fun z=>z.elim,fun z=>h z.1⟩
def hU {α:Type} (c:Prop) [Decidable c] (a:α) (Q:α->Prop):W (if c then some a else none) Q=(c/\Q a):=qY c a Q
def Hl {α:Type} (c:Prop) [Decidable c] (x:Option α) (Q:α->Prop):W (if c then x else none) Q=(c/\W x Q):=by
 by_cases h:c
 ·rw [if_pos h]; exact propext ⟨fun z=>⟨h,z⟩,fun z=>z.2⟩
 ·rw [if_neg h,bw]; exact propext ⟨fun z=>z.elim,fun z=>h z.1⟩
def gv (en:En) (i:Nat):Option D:=(en[i]?).join
def e8 (ts:List D) (n:Int) (t:D):Option (List D):=(ixN ts.length n).map fun k=>ts.set k t
def Iz (ts:List D) (n:Int):Option (D × List D):=(seqIndex? n ts.length).bind fun k=>(ts[k]?).map fun t=>(t,ts.eraseIdx k)
def e9 (i:Int) (n:Nat):List D:=(List.range n).map fun k=>.int (i+(k:Nat))
section
variable {α β:Type}
def nL (b:MS) (Q:Fl->Prop):Fl->Prop:=fun fl=>W (match fl with | .nx en1=>b en1 | .rt t en1=>some (.rt t en1) | .ct en1=>some (.ct en1)) Q
def E2 (i:Nat) (Q:Fl->Prop):D × En->Prop:=fun r=>Q (.nx (r.2.set i (some r.1)))
def E7 (Q:Fl->Prop):D × En->Prop:=fun r=>Q (.nx r.2)
def E3 (Q:Fl->Prop):D × En->Prop:=fun r=>Q (.rt r.1 r.2)
def kIf (f g:En->Option β) (Q:β->Prop):Bool × En->Prop:=fun r=>W (if r.1 then f r.2 else g r.2) Q
def uB (g:MG) (b:MS) (Q:Fl->Prop):List D × En->Prop:=fun r=>W (bW g b r.1 r.2) Q
def kJ (g:MG) (b:MS) (ts:List D) (Q:Fl->Prop):Fl->Prop:=fun fl=>W (match fl with | .nx en2=>bW g b ts en2 | .ct en2=>bW g b ts en2 | .rt r en2=>some (.rt r en2)) Q
def Aw (g:MG) (b:MS) (ts:List D) (Q:Fl->Prop):En->Prop:=fun en=>W (b en) (kJ g b ts Q)
def uz (i:Nat) (en:En) (Q:Fl->Prop):List D->Prop:=fun ts=>Q (.nx (en.set i (some (.list ts))))
def kI (i:Nat) (t:D) (Q:Fl->Prop):D × En->Prop:=fun q=>W (match q.1,(q.2[i]?).join with | .int n,some (.list ts)=>(ixN ts.length n).map fun k=>.nx (q.2.set i (some (.list (ts.set k t)))) | _,_=>none) Q
def qH (i:Nat) (fk:ME) (Q:Fl->Prop):D × En->Prop:=fun r=>W (match (r.2[i]?).join with | some _=>((fk r.2).bind fun q=>(match q.1,(q.2[i]?).join with | .int n,some (.list ts)=>(ixN ts.length n).map fun k=>.nx (q.2.set i (some (.list (ts.set k r.1)))) | _,_=>none)) | none=>none) Q
def sw (i:Nat) (t:D) (fk:ME) (en:En) (Q:Fl->Prop):D->Prop:=fun _x=>W (fk en) (kI i t Q)
def nK (i:Nat) (t:D) (n:Int) (en:En) (Q:Fl->Prop):D->Prop:=fun x=>W (match x with | .list ts=>(ixN ts.length n).map fun k=>.nx (en.set i (some (.list (ts.set k t)))) | _=>none) Q
def gY (en:En) (Q:D × En->Prop):D->Prop:=fun t=>Q (t,en)
def kMv (i:Nat) (en:En) (Q:D × En->Prop):D->Prop:=fun t=>Q (t,en.set i none)
def k1 (g:D->Option D) (Q:D × En->Prop):D × En->Prop:=fun r=>W (g r.1) (gY r.2 Q)
def k2b (g:D->D->Option D) (t:D) (Q:D × En->Prop):D × En->Prop:=fun q=>W (g t q.1) (gY q.2 Q)
def k2 (g:D->D->Option D) (f:ME) (Q:D × En->Prop):D × En->Prop:=fun r=>W (f r.2) (k2b g r.1 Q)
def uD (g:ME) (Q:D × En->Prop):D × En->Prop:=fun r=>W (match r.1 with | .bool true=>g r.2 | .bool false=>some (.bool false,r.2) | _=>none) Q
def kOr (g:ME) (Q:D × En->Prop):D × En->Prop:=fun r=>W (match r.1 with | .bool true=>some (.bool true,r.2) | .bool false=>g r.2 | _=>none) Q
def E4 (Q:D × En->Prop):D × En->Prop:=fun r=>W (match r.1 with | .bool b=>some (.bool (!b),r.2) | _=>none) Q
def kTV (Q:Bool × En->Prop):D × En->Prop:=fun r=>W (match r.1 with | .bool b=>some (b,r.2) | _=>none) Q
def qN (g:MT) (Q:Bool × En->Prop):Bool × En->Prop:=fun r=>W (if r.1 then g r.2 else some (false,r.2)) Q
def uC (g:MT) (Q:Bool × En->Prop):Bool × En->Prop:=fun r=>W (if r.1 then some (true,r.2) else g r.2) Q
def Ay (Q:Bool × En->Prop):Bool × En->Prop:=fun r=>Q (!r.1,r.2)
def uF (t:D) (Q:List (D ⊕ Nat) × En->Prop):List (D ⊕ Nat) × En->Prop:=fun y=>Q (.inl t :: y.1,y.2)
def kAC (r:MA) (Q:List (D ⊕ Nat) × En->Prop):D × En->Prop:=fun x=>W (r x.2) (uF x.1 Q)
def uE (i:Nat) (Q:List (D ⊕ Nat) × En->Prop):List (D ⊕ Nat) × En->Prop:=fun y=>Q (.inr i :: y.1,y.2)
def kAS (i:Nat) (r:MA) (en:En) (Q:List (D ⊕ Nat) × En->Prop):D->Prop:=fun _x=>W (r en) (uE i Q)
def kN2 (g:List D->Option D) (en:En) (Q:D × En->Prop):List D->Prop:=fun ts=>W (g ts) (gY en Q)
def kN (g:List D->Option D) (Q:D × En->Prop):List (D ⊕ Nat) × En->Prop:=fun r=>W (vals r.1) (kN2 g r.2 Q)
def qI (en:En) (Q:D × En->Prop):List D->Prop:=fun ts=>W (if ts.length<=sizeLine then some (.list ts,en) else none) Q
def E5 (Q:D × En->Prop):List (D ⊕ Nat) × En->Prop:=fun r=>W (vals r.1) (qI r.2 Q)
def qG (en:En) (Q:D × En->Prop):List D->Prop:=fun ts=>W (if ts.length<=sizeLine then some (.tuple ts,en) else none) Q
def EZ (Q:D × En->Prop):List (D ⊕ Nat) × En->Prop:=fun r=>W (vals r.1) (qG r.2 Q)
def nM (as:List (D ⊕ Nat)) (en:En) (Q:D × En->Prop):D × En->Prop:=fun q=>Q (q.1,wb as q.2 en)
def nN (F:List D->Option (D × En)) (as:List (D ⊕ Nat)) (en:En) (Q:D × En->Prop):List D->Prop:=fun ts=>W (F ts) (nM as en Q)
def Ax (F:List D->Option (D × En)) (Q:D × En->Prop):List (D ⊕ Nat) × En->Prop:=fun r=>W (cU r.1 r.2) (nN F r.1 r.2 Q)
def kFn (dps:List Nat) (Q:D × En->Prop):Fl->Prop:=fun fl=>W (match fl with | .rt t en=>some (t,msk dps en) | .nx en=>some (.none,msk dps en) | .ct _=>none) Q
def qK (q:Bool) (js:List (Option Nat)) (en:En) (Q:D × En->Prop):List D × En->Prop:=fun z=>Q (.list z.1,if q then en else wbB js z.2 en)
def kLC (q:Bool) (g:MG) (c:MT) (f:ME) (js:List (Option Nat)) (Q:D × En->Prop):List D × En->Prop:=fun r=>W (lcF g c f r.1 [] (bU js r.2)) (qK q js r.2 Q)
def kL3 (g:MG) (c:MT) (f:ME) (ts acc:List D) (Q:List D × En->Prop):D × En->Prop:=fun q=>W (if acc.length < sizeLine then lcF g c f ts (acc++[q.1]) q.2 else none) Q
def kL2 (g:MG) (c:MT) (f:ME) (ts acc:List D) (Q:List D × En->Prop):Bool × En->Prop:=fun r=>W (if r.1 then (f r.2).bind fun q=>if acc.length < sizeLine then lcF g c f ts (acc++[q.1]) q.2 else none else lcF g c f ts acc r.2) Q
def kL1 (g:MG) (c:MT) (f:ME) (ts acc:List D) (Q:List D × En->Prop):En->Prop:=fun en=>W (c en) (kL2 g c f ts acc Q)
def nP (Q:List D × En->Prop):D × En->Prop:=fun r=>W ((An r.1).map fun ts=>(ts,r.2)) Q
def kR1 (Q:List D × En->Prop):List (D ⊕ Nat) × En->Prop:=fun r=>W (match r.1 with | [.inl (.int j)]=>if -(2 ^ 62)<=j/\j < 2 ^ 62 then some ((List.range j.toNat).map fun k=>.int (0+(k:Nat)),r.2) else none | _=>none) Q
def kEn (Q:List D × En->Prop):List (D ⊕ Nat) × En->Prop:=fun r=>W (match r.1 with | [.inl (.list ts)]=>some (cG ts,r.2) | [.inl (.tuple ts)]=>some (cG ts,r.2) | _=>none) Q
def sf (n:Int) (en:En) (Q:D × En->Prop):D->Prop:=fun x=>W (match x with | .list ts=>(atI ts n).map fun t=>(t,en) | _=>none) Q
def kF (i:Nat) (Q:D × En->Prop):D × En->Prop:=fun r=>W (match r.1,(r.2[i]?).join with | .int n,some (.list ts)=>(atI ts n).map fun t=>(t,r.2) | _,_=>none) Q
def Au (i:Nat) (f:ME) (en:En) (Q:D × En->Prop):D->Prop:=fun _x=>W (f en) (kF i Q)
def qO (i:Nat) (Q:D × En->Prop):D × En->Prop:=fun r=>W (match (r.2[i]?).join with | some (.list ts)=>if ts.length < sizeLine then some (PyData.none,r.2.set i (some (.list (ts++[r.1])))) else none | _=>none) Q
def Az (i:Nat) (t:D) (en:En) (Q:D × En->Prop):D->Prop:=fun x=>W (match x with | .list ts=>if ts.length < sizeLine then some (PyData.none,en.set i (some (.list (ts++[t])))) else none | _=>none) Q
def Fb (i:Nat) (f:ME) (en:En) (Q:D × En->Prop):D->Prop:=fun x=>W (match x with | .list _=>((f en).bind fun r=>(match (r.2[i]?).join with | some (.list ts)=>if ts.length < sizeLine then some (PyData.none,r.2.set i (some (.list (ts++[r.1])))) else none | _=>none)) | _=>none) Q
def qM (i:Nat) (Q:D × En->Prop):D × En->Prop:=fun r=>W (match (r.2[i]?).join with | some (.dict ks)=>(kOf r.1).bind fun _=>(aR ks r.1).map fun t=>(t,r.2) | _=>none) Q
def E8 (q:D) (en:En) (Q:D × En->Prop):D->Prop:=fun x=>W (match x with | .dict ks=>(kOf q).bind fun _=>(aR ks q).map fun t=>(t,en) | _=>none) Q
def kDg (f:ME) (i:Nat) (en:En) (Q:D × En->Prop):D->Prop:=fun _x=>W (f en) (qM i Q)
def kIt (J:En->Prop) (Q:Fl->Prop):Fl->Prop:=fun fl=>match fl with | .nx e=>J e | .ct e=>J e | .rt t e=>Q (.rt t e)
def uA (us:List D) (J:List D->En->Prop):D × En->Prop:=fun r=>J (us++[r.1]) r.2
def qJ (f:ME) (us:List D) (J:List D->En->Prop):Bool × En->Prop:=fun r=>if r.1 then W (f r.2) (uA us J) else J us r.2
def E6 (c:MT) (f:ME) (us:List D) (J:List D->En->Prop):En->Prop:=fun en=>W (c en) (qJ f us J)
def kWh (b:MS) (J:En->Prop) (Q:Fl->Prop):Bool × En->Prop:=fun r=>if r.1 then W (b r.2) (kIt J Q) else Q (.nx r.2)
def kFg (b:MS) (J:En->Prop) (Q:Fl->Prop):En->Prop:=fun en=>W (b en) (kIt J Q)
def kGs (q:List D->En->Option En) (ts:List D) (Q:En->Prop):En->Prop:=fun en=>W (q ts en) Q
def kL (t:D) (Q:List D->Prop):List D->Prop:=fun ts=>Q (t :: ts)
def E9 (r:List (D ⊕ Nat)) (en:En) (Q:List D->Prop):D->Prop:=fun t=>W (cU r en) (kL t Q)
def aV {α:Type} (ts:List α) (n:Nat):atI ts (n:Int)=ts[n]?:=by
 unfold atI ixN;rw [if_pos (by omega)];by_cases h:n < ts.length
 ·rw [if_pos (by omega)]; rfl
 ·rw [if_neg (by omega),List.getElem?_eq_none (by omega)]; rfl
def e7 {ts:List D} {t:D} (n:Nat) (h:n < ts.length):e8 ts (n:Int) t=some (ts.set n t):=by
 unfold e8 ixN;rw [if_pos (by omega),if_pos (by omega)];rfl
def Ch (x:D) (l:List D):fP (x :: l) (some 1) none=l:=by
 unfold fP;rw [HT.sIx_none,show (some (1:Int))=some ((1:Nat):Int) from rfl,HT.sIx_nat,Nat.min_eq_left (by simp),List.drop_one];exact List.take_of_length_le (by simp)
def Hk (x:D) (l:List D):(HT.sIx (x :: l).length 0 (some 1)=0)=False:=by
 rw [show (some (1:Int))=some ((1:Nat):Int) from rfl,HT.sIx_nat,Nat.min_eq_left (by simp)];exact eq_false (by decide)
def pJ (a b:Int):(a == b)=decide (a=b):=by
 by_cases h:a=b
 ·rw [h,zaB rfl]; exact beq_self_eq_true b
 ·rw [zaA h]; exact beq_eq_false_iff_ne.mpr h
def Cc (a b:Bool):eqD (.bool a) (.bool b)=some (.bool (a == b)):=by
 show grd _ _=_;unfold grd;rw [if_pos ⟨rfl,rfl,Nat.zero_le _⟩];simp only [peq]
def Bd (a b:Bool):neD (.bool a) (.bool b)=some (.bool (!(a == b))):=by
 show grd _ _=_;unfold grd;rw [if_pos ⟨rfl,rfl,Nat.zero_le _⟩];simp only [peq]
def o9 (a b:Str):(a == b)=decide (a=b):=by
 by_cases h:a=b
 ·rw [h,zaB rfl]; exact beq_self_eq_true b
 ·rw [zaA h]; exact beq_eq_false_iff_ne.mpr h
def Gc (a b:Str):eqD (.str a) (.str b)=some (.bool (decide (a=b))):=by
 show grd _ _=_;unfold grd;rw [if_pos ⟨rfl,rfl,Nat.zero_le _⟩,<- o9];simp only [peq]
def EO (a b:Str):neD (.str a) (.str b)=some (.bool (!decide (a=b))):=by
 show grd _ _=_;unfold grd;rw [if_pos ⟨rfl,rfl,Nat.zero_le _⟩,<- o9];simp only [peq]
def Gd:eqD (.list []) (.list [])=some (.bool true):=by
 show grd _ _=_;unfold grd;rw [if_pos ⟨rfl,rfl,by decide⟩];rfl
def EQ:neD (.list []) (.list [])=some (.bool false):=by
 show grd _ _=_;unfold grd;rw [if_pos ⟨rfl,rfl,by decide⟩];rfl
variable (en:En) (Qs:Fl->Prop) (Qe:D × En->Prop) (Qb:Bool × En->Prop) (Qa:List (D ⊕ Nat) × En->Prop) (Ql:List D × En->Prop) (Qd:D->Prop) (Qt:List D->Prop) (Qn:En->Prop) (f:ME) (g:MG) (fa:MA) (c:MT) (ts:List D) (i:Nat)
def ws0 (α:Type) (a:α) (Q:α->Prop):W (some a) Q=Q a:=ax _ _
def ws1 (α:Type) (Q:α->Prop):W (none:Option α) Q=False:=bw _
def ws2 (α:Type) (c:Prop) (_:Decidable c) (a:α) (Q:α->Prop):W (grd c a) Q=(c/\Q a):=qY c a Q
def ws3 (a:Option D) (l:En):gv (a :: l) 0=a:=rfl
def ws4 (a:Option D) (l:En):gv (a :: l) (i+1)=gv l i:=rfl
def ws5 (a b:Option D) (l:En):List.set (a :: l) 0 b=b :: l:=rfl
def ws6 (a b:Option D) (l:En):List.set (a :: l) (i+1) b=a :: List.set l i b:=rfl
def ws7 (a b:MS):W (aj a b en) Qs=W (a en) (nL b Qs):=au _ _ _
def ws8 (b:MS):nL b Qs (.nx en)=W (b en) Qs:=rfl
def ws9 (b:MS) (t:D):nL b Qs (.rt t en)=Qs (.rt t en):=ax _ _
def D9 (b:MS):nL b Qs (.ct en)=Qs (.ct en):=ax _ _
def D8:W (aq i f en) Qs=W (f en) (E2 i Qs):=bH _ _ _
def D7 (t:D):E2 i Qs (t,en)=Qs (.nx (en.set i (some t))):=rfl
def D6:W (bh f en) Qs=W (f en) (E7 Qs):=bH _ _ _
def D5 (t:D):E7 Qs (t,en)=Qs (.nx en):=rfl
def D4:W (aI f en) Qs=W (f en) (E3 Qs):=bH _ _ _
def D3 (t:D):E3 Qs (t,en)=Qs (.rt t en):=rfl
def D2:W (aW en) Qs=Qs (.nx en):=ax _ _
def D1 (a b:MS):W (sIf c a b en) Qs=W (c en) (kIf a b Qs):=au _ _ _
def D0 (β:Type) (a b:En->Option β) (Q:β->Prop):kIf a b Q (true,en)=W (a en) Q:=rfl
def DZ (β:Type) (a b:En->Option β) (Q:β->Prop):kIf a b Q (false,en)=W (b en) Q:=rfl
def DY (fi:MI) (b:MS):W (cC fi g b en) Qs=W (fi en) (uB g b Qs):=au _ _ _
def DX (b:MS):uB g b Qs (ts,en)=W (bW g b ts en) Qs:=rfl
def DW (b:MS):W (bW g b [] en) Qs=Qs (.nx en):=ax _ _
def DU (b:MS) (t:D):W (bW g b (t :: ts) en) Qs=W (g t en) (Aw g b ts Qs):=(au _ _ _).trans (congrArg _ (funext fun z=>au _ _ _))
def DT (b:MS):Aw g b ts Qs en=W (b en) (kJ g b ts Qs):=rfl
def DS (b:MS):kJ g b ts Qs (.nx en)=W (bW g b ts en) Qs:=rfl
def DR (b:MS):kJ g b ts Qs (.ct en)=W (bW g b ts en) Qs:=rfl
def DQ (b:MS) (t:D):kJ g b ts Qs (.rt t en)=Qs (.rt t en):=ax _ _
def DP (t:D):W (gN i t en) Qn=Qn (en.set i (some t)):=ax _ _
def DN (g:List D->En->Option En):W (gT g (.tuple ts) en) Qn=W (g ts en) Qn:=rfl
def DM (q:List D->En->Option En) (t:D):W (gsC g q (t :: ts) en) Qn=W (g t en) (kGs q ts Qn):=au _ _ _
def DL (q:List D->En->Option En):kGs q ts Qn en=W (q ts en) Qn:=rfl
def DK:W (gs0 [] en) Qn=Qn en:=ax _ _
def DJ (fk fe:ME):W (bY i fk fe en) Qs=W (fe en) (qH i fk Qs):=au _ _ _
def DI (fk:ME) (t:D):qH i fk Qs (t,en)=W (gv en i) (sw i t fk en Qs):=by unfold qH gv; cases h:(en[i]?).join with | none=>simp only [h,bw] | some x=>simp only [h,ax]; exact au _ _ _
def DH (t:D) (fk:ME) (x:D):sw i t fk en Qs x=W (fk en) (kI i t Qs):=rfl
def DG (t:D) (n:Int):kI i t Qs (.int n,en)=W (gv en i) (nK i t n en Qs):=by unfold kI gv; cases h:(en[i]?).join with | none=>simp only [h,bw] | some x=>simp only [h,ax]; cases x <;> first | rfl | exact (ax _ _).symm | (rw [ax]; rfl) | (rw [ax]; exact bw _)
def DF (t:D) (n:Int):nK i t n en Qs (.list ts)=W (e8 ts n t) (uz i en Qs):=by unfold nK e8 uz; dsimp only; rw [bH,bH]
def DE:uz i en Qs ts=Qs (.nx (en.set i (some (.list ts)))):=rfl
def DD (x0 t:D) (l:List D):e8 (x0 :: l) 0 t=some (t :: l):=e7 0 (by simp only [zac]; omega)
def DC (x0 x1 t:D) (l:List D):e8 (x0 :: x1 :: l) 1 t=some (x0 :: t :: l):=e7 1 (by simp only [zac]; omega)
def DB (x0 x1 x2 t:D) (l:List D):e8 (x0 :: x1 :: x2 :: l) 2 t=some (x0 :: x1 :: t :: l):=e7 2 (by simp only [zac]; omega)
def DA (x0 x1 x2 x3 t:D) (l:List D):e8 (x0 :: x1 :: x2 :: x3 :: l) 3 t=some (x0 :: x1 :: x2 :: t :: l):=e7 3 (by simp only [zac]; omega)
def Dz (x0 x1 x2 x3 x4 t:D) (l:List D):e8 (x0 :: x1 :: x2 :: x3 :: x4 :: l) 4 t=some (x0 :: x1 :: x2 :: x3 :: t :: l):=e7 4 (by simp only [zac]; omega)
def Dy (x0 x1 x2 x3 x4 x5 t:D) (l:List D):e8 (x0 :: x1 :: x2 :: x3 :: x4 :: x5 :: l) 5 t=some (x0 :: x1 :: x2 :: x3 :: x4 :: t :: l):=e7 5 (by simp only [zac]; omega)
def Dx:W (aa i en) Qe=W (gv en i) (gY en Qe):=bH _ _ _
def Dw (t:D):gY en Qe t=Qe (t,en):=rfl
def Dv:W (eMv i en) Qe=W (gv en i) (kMv i en Qe):=bH _ _ _
def Du (t:D):kMv i en Qe t=Qe (t,en.set i none):=rfl
def Dt (t:D):W (eC t en) Qe=Qe (t,en):=ax _ _
def Ds (g:D->Option D):W (e1 g f en) Qe=W (f en) (k1 g Qe):=(au _ _ _).trans (congrArg _ (funext fun z=>bH _ _ _))
def Dr (g:D->Option D) (t:D):k1 g Qe (t,en)=W (g t) (gY en Qe):=rfl
def Dq (g:D->D->Option D) (f1 f2:ME):W (e2 g f1 f2 en) Qe=W (f1 en) (k2 g f2 Qe):=(au _ _ _).trans (congrArg _ (funext fun z=>(au _ _ _).trans (congrArg _ (funext fun y=>bH _ _ _))))
def Dp (g:D->D->Option D) (f2:ME) (t:D):k2 g f2 Qe (t,en)=W (f2 en) (k2b g t Qe):=rfl
def Do (g:D->D->Option D) (t u:D):k2b g t Qe (u,en)=W (g t u) (gY en Qe):=rfl
def Dm (f g:ME):W (jx f g en) Qe=W (f en) (uD g Qe):=au _ _ _
def Dl (g:ME):uD g Qe (.bool true,en)=W (g en) Qe:=rfl
def Dk (g:ME):uD g Qe (.bool false,en)=Qe (.bool false,en):=ax _ _
def Dj (f g:ME):W (eOr f g en) Qe=W (f en) (kOr g Qe):=au _ _ _
def Di (g:ME):kOr g Qe (.bool true,en)=Qe (.bool true,en):=ax _ _
def Dh (g:ME):kOr g Qe (.bool false,en)=W (g en) Qe:=rfl
def Dg:W (l6 f en) Qe=W (f en) (E4 Qe):=au _ _ _
def De (x:Bool):E4 Qe (.bool x,en)=Qe (.bool (!x),en):=ax _ _
def Dd (f g:ME):W (eIf c f g en) Qe=W (c en) (kIf f g Qe):=au _ _ _
def Dc:W (tV f en) Qb=W (f en) (kTV Qb):=au _ _ _
def Db (x:Bool):kTV Qb (.bool x,en)=Qb (x,en):=ax _ _
def Da (f g:MT):W (cu f g en) Qb=W (f en) (qN g Qb):=au _ _ _
def C9 (g:MT):qN g Qb (true,en)=W (g en) Qb:=rfl
def C8 (g:MT):qN g Qb (false,en)=Qb (false,en):=ax _ _
def C7 (f g:MT):W (bOr f g en) Qb=W (f en) (uC g Qb):=au _ _ _
def C6 (g:MT):uC g Qb (true,en)=Qb (true,en):=ax _ _
def C5 (g:MT):uC g Qb (false,en)=W (g en) Qb:=rfl
def C4 (f:MT):W (jC f en) Qb=W (f en) (Ay Qb):=bH _ _ _
def C3 (x:Bool):Ay Qb (x,en)=Qb (!x,en):=rfl
def C2:W (cY en) Qb=Qb (true,en):=ax _ _
def C1:W (ah en) Qa=Qa ([],en):=ax _ _
def C0 (r:MA):W (ad f r en) Qa=W (f en) (kAC r Qa):=(au _ _ _).trans (congrArg _ (funext fun z=>bH _ _ _))
def CZ (r:MA) (t:D):kAC r Qa (t,en)=W (r en) (uF t Qa):=rfl
def CY (t:D) (as:List (D ⊕ Nat)):uF t Qa (as,en)=Qa (.inl t :: as,en):=rfl
def CW (r:MA):W (az i r en) Qa=W (gv en i) (kAS i r en Qa):=(au _ _ _).trans (congrArg _ (funext fun z=>bH _ _ _))
def CV (r:MA) (t:D):kAS i r en Qa t=W (r en) (uE i Qa):=rfl
def CU (as:List (D ⊕ Nat)):uE i Qa (as,en)=Qa (.inr i :: as,en):=rfl
def CT:vals []=some []:=rfl
def CQ (t:D) (r:List (D ⊕ Nat)):W (vals (.inl t :: r)) Qt=W (vals r) (kL t Qt):=bH _ _ _
def CP (t:D):kL t Qt ts=Qt (t :: ts):=rfl
def CO:cU [] en=some []:=rfl
def CN (t:D) (r:List (D ⊕ Nat)):W (cU (.inl t :: r) en) Qt=W (cU r en) (kL t Qt):=bH _ _ _
def CM (r:List (D ⊕ Nat)):W (cU (.inr i :: r) en) Qt=W (gv en i) (E9 r en Qt):=(au _ _ _).trans (congrArg _ (funext fun z=>bH _ _ _))
def CL (t:D) (r:List (D ⊕ Nat)):E9 r en Qt t=W (cU r en) (kL t Qt):=rfl
def CK (r:List (D ⊕ Nat)) (o:Option D) (outs:En):wb (.inr i :: r) (o :: outs) en=wb r outs (en.set i o):=rfl
def CJ (t:D) (r:List (D ⊕ Nat)) (o:Option D) (outs:En):wb (.inl t :: r) (o :: outs) en=wb r outs en:=rfl
def CI (outs:En):wb [] outs en=en:=rfl
def CH (g:List D->Option D):W (eN g fa en) Qe=W (fa en) (kN g Qe):=(au _ _ _).trans (congrArg _ (funext fun z=>(au _ _ _).trans (congrArg _ (funext fun y=>bH _ _ _))))
def CG (g:List D->Option D) (as:List (D ⊕ Nat)):kN g Qe (as,en)=W (vals as) (kN2 g en Qe):=rfl
def CF (g:List D->Option D):kN2 g en Qe ts=W (g ts) (gY en Qe):=rfl
def CD:W (aO fa en) Qe=W (fa en) (E5 Qe):=(au _ _ _).trans (congrArg _ (funext fun z=>au _ _ _))
def CC (as:List (D ⊕ Nat)):E5 Qe (as,en)=W (vals as) (qI en Qe):=rfl
def CB:qI en Qe ts=(ts.length<=sizeLine/\Qe (.list ts,en)):=hU _ _ _
def CA:W (cR fa en) Qe=W (fa en) (EZ Qe):=(au _ _ _).trans (congrArg _ (funext fun z=>au _ _ _))
def Ae (as:List (D ⊕ Nat)):EZ Qe (as,en)=W (vals as) (qG en Qe):=rfl
def Ad:qG en Qe ts=(ts.length<=sizeLine/\Qe (.tuple ts,en)):=hU _ _ _
def Ac:(([]:List D).length<=sizeLine)=True:=eq_true (zau (by show 0<=100; decide) be)
def Ab (x0:D):(([x0]:List D).length<=sizeLine)=True:=eq_true (zau (by show 1<=100; decide) be)
def Aa (x0 x1:D):(([x0,x1]:List D).length<=sizeLine)=True:=eq_true (zau (by show 2<=100; decide) be)
def zZ (x0 x1 x2:D):(([x0,x1,x2]:List D).length<=sizeLine)=True:=eq_true (zau (by show 3<=100; decide) be)
def zY (x0 x1 x2 x3:D):(([x0,x1,x2,x3]:List D).length<=sizeLine)=True:=eq_true (zau (by show 4<=100; decide) be)
def zX (x0 x1 x2 x3 x4:D):(([x0,x1,x2,x3,x4]:List D).length<=sizeLine)=True:=eq_true (zau (by show 5<=100; decide) be)
def zW (x0 x1 x2 x3 x4 x5:D):(([x0,x1,x2,x3,x4,x5]:List D).length<=sizeLine)=True:=eq_true (zau (by show 6<=100; decide) be)
def zV (x0 x1 x2 x3 x4 x5 x6:D):(([x0,x1,x2,x3,x4,x5,x6]:List D).length<=sizeLine)=True:=eq_true (zau (by show 7<=100; decide) be)
def zU (x0 x1 x2 x3 x4 x5 x6 x7:D):(([x0,x1,x2,x3,x4,x5,x6,x7]:List D).length<=sizeLine)=True:=eq_true (zau (by show 8<=100; decide) be)
def zT (x0 x1 x2 x3 x4 x5 x6 x7 x8:D):(([x0,x1,x2,x3,x4,x5,x6,x7,x8]:List D).length<=sizeLine)=True:=eq_true (zau (by show 9<=100; decide) be)
def zS (F:List D->Option (D × En)):W (am F fa en) Qe=W (fa en) (Ax F Qe):=(au _ _ _).trans (congrArg _ (funext fun z=>(au _ _ _).trans (congrArg _ (funext fun y=>bH _ _ _))))
def zR (F:List D->Option (D × En)) (as:List (D ⊕ Nat)):Ax F Qe (as,en)=W (cU as en) (nN F as en Qe):=rfl
def zQ (F:List D->Option (D × En)) (as:List (D ⊕ Nat)):nN F as en Qe ts=W (F ts) (nM as en Qe):=rfl
def zP (as:List (D ⊕ Nat)) (t:D) (outs:En):nM as en Qe (t,outs)=Qe (t,wb as outs en):=rfl
def zO (q:Bool) (fi:MI) (js:List (Option Nat)):W (eLC q fi g c f js en) Qe=W (fi en) (kLC q g c f js Qe):=(au _ _ _).trans (congrArg _ (funext fun z=>bH _ _ _))
def zN (q:Bool) (js:List (Option Nat)):kLC q g c f js Qe (ts,en)=W (lcF g c f ts [] (bU js en)) (qK q js en Qe):=rfl
def zM (js:List (Option Nat)) (us:List D) (ex:En):qK true js en Qe (us,ex)=Qe (.list us,en):=rfl
def zK (js:List (Option Nat)) (us:List D) (ex:En):qK false js en Qe (us,ex)=Qe (.list us,wbB js ex en):=rfl
def zJ:bU [] en=[]:=rfl
def zI (j:Nat) (js:List (Option Nat)):bU (some j :: js) en=gv en j :: bU js en:=rfl
def zH (js:List (Option Nat)):bU (none :: js) en=none :: bU js en:=rfl
def zG (j:Nat) (js:List (Option Nat)) (o:Option D) (ex:En):wbB (some j :: js) (o :: ex) en=wbB js ex (en.set j o):=rfl
def zF (js:List (Option Nat)) (o:Option D) (ex:En):wbB (none :: js) (o :: ex) en=wbB js ex en:=rfl
def zE (ex:En):wbB [] ex en=en:=rfl
def zC:W (lcF g c f [] acc en) Ql=Ql (acc,en):=ax _ _
def zB:W (cE f en) Ql=W (f en) (nP Ql):=au _ _ _
def zA:nP Ql (.list ts,en)=Ql (ts,en):=ax _ _
def zz:nP Ql (.tuple ts,en)=Ql (ts,en):=ax _ _
def zy (z:Str):nP Ql (.str z,en)=Ql (jQ z,en):=ax _ _
def zx:W (bt fa en) Ql=W (fa en) (kR1 Ql):=au _ _ _
def zw (j:Int):kR1 Ql ([.inl (.int j)],en)=((-(2 ^ 62)<=j/\j < 2 ^ 62)/\Ql (e9 0 j.toNat,en)):=hU _ _ _
def zv:W (ij fa en) Ql=W (fa en) (kEn Ql):=au _ _ _
def zu:kEn Ql ([.inl (.list ts)],en)=Ql (cG ts,en):=ax _ _
def zt:kEn Ql ([.inl (.tuple ts)],en)=Ql (cG ts,en):=ax _ _
def zr:W (dW i f en) Qe=W (gv en i) (Au i f en Qe):=(au _ _ _).trans (congrArg _ (funext fun z=>au _ _ _))
def zq (x:D):Au i f en Qe x=W (f en) (kF i Qe):=rfl
def zp (n:Int):kF i Qe (.int n,en)=W (gv en i) (sf n en Qe):=by unfold kF gv; cases h:(en[i]?).join with | none=>simp only [h,bw] | some x=>simp only [h,ax]; cases x <;> first | rfl | exact (ax _ _).symm | (rw [ax]; rfl) | (rw [ax]; exact bw _)
def zo (n:Int):sf n en Qe (.list ts)=W (atI ts n) (gY en Qe):=bH _ _ _
def zn:W (bG i f en) Qe=W (gv en i) (Fb i f en Qe):=by unfold gv bG; cases (en[i]?).join with | none=>rw [bw,bw] | some x=>cases x <;> first | rfl | exact (ax _ _).symm | (rw [ax]; rfl) | (rw [ax]; exact bw _)
def zm:Fb i f en Qe (.list ts)=W (f en) (qO i Qe):=au _ _ _
def zh (t:D):qO i Qe (t,en)=W (gv en i) (Az i t en Qe):=by unfold qO gv; cases h:(en[i]?).join with | none=>simp only [h,bw] | some x=>simp only [h,ax]; cases x <;> first | rfl | exact (ax _ _).symm | (rw [ax]; rfl) | (rw [ax]; exact bw _)
def zg (t:D):Az i t en Qe (.list ts)=(ts.length < sizeLine/\Qe (.none,en.set i (some (.list (ts++[t]))))):=hU _ _ _
def zd:W (aP i f en) Qe=W (gv en i) (kDg f i en Qe):=(au _ _ _).trans (congrArg _ (funext fun z=>au _ _ _))
def zc (x:D):kDg f i en Qe x=W (f en) (qM i Qe):=rfl
def zb (q:D):qM i Qe (q,en)=W (gv en i) (E8 q en Qe):=by unfold qM gv; cases h:(en[i]?).join with | none=>simp only [h,bw] | some x=>simp only [h,ax]; cases x <;> first | rfl | exact (ax _ _).symm | (rw [ax]; rfl) | (rw [ax]; exact bw _)
def y9 (J:En->Prop):kIt J Qs (.nx en)=J en:=rfl
def y8 (J:En->Prop):kIt J Qs (.ct en)=J en:=rfl
def y6 (J:En->Prop) (t:D):kIt J Qs (.rt t en)=Qs (.rt t en):=rfl
def y4 (b:MS) (J:En->Prop):kFg b J Qs en=W (b en) (kIt J Qs):=rfl
def y3 (b:MS) (J:En->Prop):kWh b J Qs (true,en)=W (b en) (kIt J Qs):=rfl
def yZ (b:MS) (J:En->Prop):kWh b J Qs (false,en)=Qs (.nx en):=rfl
def yY (us:List D) (J:List D->En->Prop):E6 c f us J en=W (c en) (qJ f us J):=rfl
def yX (us:List D) (J:List D->En->Prop):qJ f us J (true,en)=W (f en) (uA us J):=rfl
def yW (us:List D) (J:List D->En->Prop):qJ f us J (false,en)=J us en:=rfl
def yV (us:List D) (J:List D->En->Prop) (t:D):uA us J (t,en)=J (us++[t]) en:=rfl
def yU (n:Nat) (dps:List Nat) (b:MS):W (fnF n dps b ts) Qe=W (b (ts.map some++List.replicate n none)) (kFn dps Qe):=au _ _ _
def yT (dps:List Nat) (t:D):kFn dps Qe (.rt t en)=Qe (t,msk dps en):=ax _ _
def yS (dps:List Nat):kFn dps Qe (.nx en)=Qe (.none,msk dps en):=ax _ _
def yR (d:Nat) (ds:List Nat) (o:Option D):msk ((d+1) :: ds) (o :: en)=o :: msk ds en:=rfl
def yQ (ds:List Nat) (o:Option D):msk (0 :: ds) (o :: en)=none :: msk ds en:=rfl
def yP:msk [] en=[]:=rfl
def yO (t:D):List.map some (t :: ts)=some t :: List.map some ts:=rfl
def yN:List.map (some:D->Option D) []=[]:=rfl
def yM (a:Option D) (l m:En):(a :: l)++m=a :: (l++m):=rfl
def yL (m:En):([]:En)++m=m:=rfl
def yK (a:Option D):List.replicate 0 a=[]:=rfl
def yJ (a:Option D) (n:Nat):List.replicate (n+1) a=a :: List.replicate n a:=rfl
def yI (a b:Int):aQ (.int a) (.int b)=some (.int (a+b)):=rfl
def yH (a b:Str):W (aQ (.str a) (.str b)) Qd=(a.length+b.length<=sizeLine/\Qd (.str (a++b))):=hU _ _ _
def yG (a b:Int):fL (.int a) (.int b)=some (.int (a - b)):=rfl
def yF (a b:Int):W (bF (.int a) (.int b)) Qd=(CMul a b/\Qd (.int (a * b))):=hU _ _ _
def yE (a b:Int):W (bZ (.int a) (.int b)) Qd=(fT a b/\Qd (.int (a / b))):=hU _ _ _
def yD (a b:Int):W (bp (.int a) (.int b)) Qd=(0 < b/\Qd (.int (a % b))):=hU _ _ _
def yC (a b:Int):W (lE (.int a) (.int b)) Qd=(i6 a b/\Qd (.int (a ^ b.toNat))):=hU _ _ _
def yB (a b:Int):ltI (.int a) (.int b)=some (.bool (decide (a < b))):=rfl
def yA (a b:Int):leI (.int a) (.int b)=some (.bool (decide (a<=b))):=rfl
def yz (a b:Int):gtI (.int a) (.int b)=some (.bool (decide (b < a))):=rfl
def yy (a b:Int):geI (.int a) (.int b)=some (.bool (decide (b<=a))):=rfl
def yx (a b:Int):eqD (.int a) (.int b)=some (.bool (decide (a=b))):=(jw a b).trans (congrArg (fun q=>some (PyData.bool q)) (pJ a b))
def yw (a b:Int):neD (.int a) (.int b)=some (.bool (!decide (a=b))):=(ES a b).trans (congrArg (fun q=>some (PyData.bool (!q))) (pJ a b))
def yv:isN .none .none=some (.bool true):=rfl
def yu:gi .none .none=some (.bool false):=rfl
def yt (x:Int):isN (.int x) .none=some (.bool false):=rfl
def yr (x:Int):gi (.int x) .none=some (.bool true):=rfl
def yq (x:Bool):isN (.bool x) .none=some (.bool false):=rfl
def yo (x:Bool):gi (.bool x) .none=some (.bool true):=rfl
def yn (x:Str):isN (.str x) .none=some (.bool false):=rfl
def ym (x:Str):gi (.str x) .none=some (.bool true):=rfl
def yk (x:List D):isN (.list x) .none=some (.bool false):=rfl
def yj (x:List D):gi (.list x) .none=some (.bool true):=rfl
def yi (x:List D):isN (.tuple x) .none=some (.bool false):=rfl
def yh (x:List D):gi (.tuple x) .none=some (.bool true):=rfl
def yg (x:List (D × D)):isN (.dict x) .none=some (.bool false):=rfl
def yf (x:List (D × D)):gi (.dict x) .none=some (.bool true):=rfl
def ye:aA "int" (.none)=some (.bool false):=(if_neg (fun z=>nomatch z)).trans (congrArg (fun b=>some (PyData.bool b)) (show aB "NoneType" "int"=false by decide))
def yd:aA "bool" (.none)=some (.bool false):=(if_neg (fun z=>nomatch z)).trans (congrArg (fun b=>some (PyData.bool b)) (show aB "NoneType" "bool"=false by decide))
def yc:aA "str" (.none)=some (.bool false):=(if_neg (fun z=>nomatch z)).trans (congrArg (fun b=>some (PyData.bool b)) (show aB "NoneType" "str"=false by decide))
def yb:aA "list" (.none)=some (.bool false):=(if_neg (fun z=>nomatch z)).trans (congrArg (fun b=>some (PyData.bool b)) (show aB "NoneType" "list"=false by decide))
def ya:aA "tuple" (.none)=some (.bool false):=(if_neg (fun z=>nomatch z)).trans (congrArg (fun b=>some (PyData.bool b)) (show aB "NoneType" "tuple"=false by decide))
def xZ:aA "dict" (.none)=some (.bool false):=(if_neg (fun z=>nomatch z)).trans (congrArg (fun b=>some (PyData.bool b)) (show aB "NoneType" "dict"=false by decide))
def xY (x:Int):aA "int" (.int x)=some (.bool true):=(if_neg (fun z=>nomatch z)).trans (congrArg (fun b=>some (PyData.bool b)) (show aB "int" "int"=true by decide))
def xX (x:Int):aA "bool" (.int x)=some (.bool false):=(if_neg (fun z=>nomatch z)).trans (congrArg (fun b=>some (PyData.bool b)) (show aB "int" "bool"=false by decide))
def xW (x:Int):aA "str" (.int x)=some (.bool false):=(if_neg (fun z=>nomatch z)).trans (congrArg (fun b=>some (PyData.bool b)) (show aB "int" "str"=false by decide))
def xV (x:Int):aA "list" (.int x)=some (.bool false):=(if_neg (fun z=>nomatch z)).trans (congrArg (fun b=>some (PyData.bool b)) (show aB "int" "list"=false by decide))
def xU (x:Int):aA "tuple" (.int x)=some (.bool false):=(if_neg (fun z=>nomatch z)).trans (congrArg (fun b=>some (PyData.bool b)) (show aB "int" "tuple"=false by decide))
def xT (x:Int):aA "dict" (.int x)=some (.bool false):=(if_neg (fun z=>nomatch z)).trans (congrArg (fun b=>some (PyData.bool b)) (show aB "int" "dict"=false by decide))
def xS (x:Bool):aA "int" (.bool x)=some (.bool true):=(if_neg (fun z=>nomatch z)).trans (congrArg (fun b=>some (PyData.bool b)) (show aB "bool" "int"=true by decide))
def xR (x:Bool):aA "bool" (.bool x)=some (.bool true):=(if_neg (fun z=>nomatch z)).trans (congrArg (fun b=>some (PyData.bool b)) (show aB "bool" "bool"=true by decide))
def xQ (x:Bool):aA "str" (.bool x)=some (.bool false):=(if_neg (fun z=>nomatch z)).trans (congrArg (fun b=>some (PyData.bool b)) (show aB "bool" "str"=false by decide))
def xP (x:Bool):aA "list" (.bool x)=some (.bool false):=(if_neg (fun z=>nomatch z)).trans (congrArg (fun b=>some (PyData.bool b)) (show aB "bool" "list"=false by decide))
def xO (x:Bool):aA "tuple" (.bool x)=some (.bool false):=(if_neg (fun z=>nomatch z)).trans (congrArg (fun b=>some (PyData.bool b)) (show aB "bool" "tuple"=false by decide))
def xN (x:Bool):aA "dict" (.bool x)=some (.bool false):=(if_neg (fun z=>nomatch z)).trans (congrArg (fun b=>some (PyData.bool b)) (show aB "bool" "dict"=false by decide))
def xM (x:Str):aA "int" (.str x)=some (.bool false):=(if_neg (fun z=>nomatch z)).trans (congrArg (fun b=>some (PyData.bool b)) (show aB "str" "int"=false by decide))
def xL (x:Str):aA "bool" (.str x)=some (.bool false):=(if_neg (fun z=>nomatch z)).trans (congrArg (fun b=>some (PyData.bool b)) (show aB "str" "bool"=false by decide))
def xK (x:Str):aA "str" (.str x)=some (.bool true):=(if_neg (fun z=>nomatch z)).trans (congrArg (fun b=>some (PyData.bool b)) (show aB "str" "str"=true by decide))
def xJ (x:Str):aA "list" (.str x)=some (.bool false):=(if_neg (fun z=>nomatch z)).trans (congrArg (fun b=>some (PyData.bool b)) (show aB "str" "list"=false by decide))
def xI (x:Str):aA "tuple" (.str x)=some (.bool false):=(if_neg (fun z=>nomatch z)).trans (congrArg (fun b=>some (PyData.bool b)) (show aB "str" "tuple"=false by decide))
def xH (x:Str):aA "dict" (.str x)=some (.bool false):=(if_neg (fun z=>nomatch z)).trans (congrArg (fun b=>some (PyData.bool b)) (show aB "str" "dict"=false by decide))
def xG (x:List D):aA "int" (.list x)=some (.bool false):=(if_neg (fun z=>nomatch z)).trans (congrArg (fun b=>some (PyData.bool b)) (show aB "list" "int"=false by decide))
def xF (x:List D):aA "bool" (.list x)=some (.bool false):=(if_neg (fun z=>nomatch z)).trans (congrArg (fun b=>some (PyData.bool b)) (show aB "list" "bool"=false by decide))
def xE (x:List D):aA "str" (.list x)=some (.bool false):=(if_neg (fun z=>nomatch z)).trans (congrArg (fun b=>some (PyData.bool b)) (show aB "list" "str"=false by decide))
def xD (x:List D):aA "list" (.list x)=some (.bool true):=(if_neg (fun z=>nomatch z)).trans (congrArg (fun b=>some (PyData.bool b)) (show aB "list" "list"=true by decide))
def xC (x:List D):aA "tuple" (.list x)=some (.bool false):=(if_neg (fun z=>nomatch z)).trans (congrArg (fun b=>some (PyData.bool b)) (show aB "list" "tuple"=false by decide))
def xB (x:List D):aA "dict" (.list x)=some (.bool false):=(if_neg (fun z=>nomatch z)).trans (congrArg (fun b=>some (PyData.bool b)) (show aB "list" "dict"=false by decide))
def xA (x:List D):aA "int" (.tuple x)=some (.bool false):=(if_neg (fun z=>nomatch z)).trans (congrArg (fun b=>some (PyData.bool b)) (show aB "tuple" "int"=false by decide))
def xz (x:List D):aA "bool" (.tuple x)=some (.bool false):=(if_neg (fun z=>nomatch z)).trans (congrArg (fun b=>some (PyData.bool b)) (show aB "tuple" "bool"=false by decide))
def xy (x:List D):aA "str" (.tuple x)=some (.bool false):=(if_neg (fun z=>nomatch z)).trans (congrArg (fun b=>some (PyData.bool b)) (show aB "tuple" "str"=false by decide))
def xx (x:List D):aA "list" (.tuple x)=some (.bool false):=(if_neg (fun z=>nomatch z)).trans (congrArg (fun b=>some (PyData.bool b)) (show aB "tuple" "list"=false by decide))
def xw (x:List D):aA "tuple" (.tuple x)=some (.bool true):=(if_neg (fun z=>nomatch z)).trans (congrArg (fun b=>some (PyData.bool b)) (show aB "tuple" "tuple"=true by decide))
def xv (x:List D):aA "dict" (.tuple x)=some (.bool false):=(if_neg (fun z=>nomatch z)).trans (congrArg (fun b=>some (PyData.bool b)) (show aB "tuple" "dict"=false by decide))
def xu:aA "int" (.dict [])=some (.bool false):=(if_neg (fun z=>nomatch z)).trans (congrArg (fun b=>some (PyData.bool b)) (show aB "dict" "int"=false by decide))
def xt (k:Str) (x:D) (r:List (D × D)):aA "int" (.dict ((.str k,x) :: r))=some (.bool false):=(if_neg (fun z=>nomatch z)).trans (congrArg (fun b=>some (PyData.bool b)) (show aB "dict" "int"=false by decide))
def xr (k:Int) (x:D) (r:List (D × D)):aA "int" (.dict ((.int k,x) :: r))=some (.bool false):=(if_neg (fun z=>nomatch z)).trans (congrArg (fun b=>some (PyData.bool b)) (show aB "dict" "int"=false by decide))
def xq (k:List D) (x:D) (r:List (D × D)):aA "int" (.dict ((.tuple k,x) :: r))=some (.bool false):=(if_neg (fun z=>nomatch z)).trans (congrArg (fun b=>some (PyData.bool b)) (show aB "dict" "int"=false by decide))
def xo:aA "bool" (.dict [])=some (.bool false):=(if_neg (fun z=>nomatch z)).trans (congrArg (fun b=>some (PyData.bool b)) (show aB "dict" "bool"=false by decide))
def xn (k:Str) (x:D) (r:List (D × D)):aA "bool" (.dict ((.str k,x) :: r))=some (.bool false):=(if_neg (fun z=>nomatch z)).trans (congrArg (fun b=>some (PyData.bool b)) (show aB "dict" "bool"=false by decide))
def xm (k:Int) (x:D) (r:List (D × D)):aA "bool" (.dict ((.int k,x) :: r))=some (.bool false):=(if_neg (fun z=>nomatch z)).trans (congrArg (fun b=>some (PyData.bool b)) (show aB "dict" "bool"=false by decide))
def xl (k:List D) (x:D) (r:List (D × D)):aA "bool" (.dict ((.tuple k,x) :: r))=some (.bool false):=(if_neg (fun z=>nomatch z)).trans (congrArg (fun b=>some (PyData.bool b)) (show aB "dict" "bool"=false by decide))
def xk:aA "str" (.dict [])=some (.bool false):=(if_neg (fun z=>nomatch z)).trans (congrArg (fun b=>some (PyData.bool b)) (show aB "dict" "str"=false by decide))
def xj (k:Str) (x:D) (r:List (D × D)):aA "str" (.dict ((.str k,x) :: r))=some (.bool false):=(if_neg (fun z=>nomatch z)).trans (congrArg (fun b=>some (PyData.bool b)) (show aB "dict" "str"=false by decide))
def xi (k:Int) (x:D) (r:List (D × D)):aA "str" (.dict ((.int k,x) :: r))=some (.bool false):=(if_neg (fun z=>nomatch z)).trans (congrArg (fun b=>some (PyData.bool b)) (show aB "dict" "str"=false by decide))
def xh (k:List D) (x:D) (r:List (D × D)):aA "str" (.dict ((.tuple k,x) :: r))=some (.bool false):=(if_neg (fun z=>nomatch z)).trans (congrArg (fun b=>some (PyData.bool b)) (show aB "dict" "str"=false by decide))
def xg:aA "list" (.dict [])=some (.bool false):=(if_neg (fun z=>nomatch z)).trans (congrArg (fun b=>some (PyData.bool b)) (show aB "dict" "list"=false by decide))
def xf (k:Str) (x:D) (r:List (D × D)):aA "list" (.dict ((.str k,x) :: r))=some (.bool false):=(if_neg (fun z=>nomatch z)).trans (congrArg (fun b=>some (PyData.bool b)) (show aB "dict" "list"=false by decide))
def xc (k:Int) (x:D) (r:List (D × D)):aA "list" (.dict ((.int k,x) :: r))=some (.bool false):=(if_neg (fun z=>nomatch z)).trans (congrArg (fun b=>some (PyData.bool b)) (show aB "dict" "list"=false by decide))
def xb (k:List D) (x:D) (r:List (D × D)):aA "list" (.dict ((.tuple k,x) :: r))=some (.bool false):=(if_neg (fun z=>nomatch z)).trans (congrArg (fun b=>some (PyData.bool b)) (show aB "dict" "list"=false by decide))
def xa:aA "tuple" (.dict [])=some (.bool false):=(if_neg (fun z=>nomatch z)).trans (congrArg (fun b=>some (PyData.bool b)) (show aB "dict" "tuple"=false by decide))
def w8 (k:Str) (x:D) (r:List (D × D)):aA "tuple" (.dict ((.str k,x) :: r))=some (.bool false):=(if_neg (fun z=>nomatch z)).trans (congrArg (fun b=>some (PyData.bool b)) (show aB "dict" "tuple"=false by decide))
def w6 (k:Int) (x:D) (r:List (D × D)):aA "tuple" (.dict ((.int k,x) :: r))=some (.bool false):=(if_neg (fun z=>nomatch z)).trans (congrArg (fun b=>some (PyData.bool b)) (show aB "dict" "tuple"=false by decide))
def w4 (k:List D) (x:D) (r:List (D × D)):aA "tuple" (.dict ((.tuple k,x) :: r))=some (.bool false):=(if_neg (fun z=>nomatch z)).trans (congrArg (fun b=>some (PyData.bool b)) (show aB "dict" "tuple"=false by decide))
def wZ:aA "dict" (.dict [])=some (.bool true):=(if_neg (fun z=>nomatch z)).trans (congrArg (fun b=>some (PyData.bool b)) (show aB "dict" "dict"=true by decide))
def wY (k:Str) (x:D) (r:List (D × D)):aA "dict" (.dict ((.str k,x) :: r))=some (.bool true):=(if_neg (fun z=>nomatch z)).trans (congrArg (fun b=>some (PyData.bool b)) (show aB "dict" "dict"=true by decide))
def wX (k:Int) (x:D) (r:List (D × D)):aA "dict" (.dict ((.int k,x) :: r))=some (.bool true):=(if_neg (fun z=>nomatch z)).trans (congrArg (fun b=>some (PyData.bool b)) (show aB "dict" "dict"=true by decide))
def wW (k:List D) (x:D) (r:List (D × D)):aA "dict" (.dict ((.tuple k,x) :: r))=some (.bool true):=(if_neg (fun z=>nomatch z)).trans (congrArg (fun b=>some (PyData.bool b)) (show aB "dict" "dict"=true by decide))
def wV:((([]:List D).length:Nat):Int)=0:=rfl
def wU (x0:D):((([x0]:List D).length:Nat):Int)=1:=rfl
def wT (x0 x1:D):((([x0,x1]:List D).length:Nat):Int)=2:=rfl
def wS (x0 x1 x2:D):((([x0,x1,x2]:List D).length:Nat):Int)=3:=rfl
def wR (x0 x1 x2 x3:D):((([x0,x1,x2,x3]:List D).length:Nat):Int)=4:=rfl
def wQ (x0 x1 x2 x3 x4:D):((([x0,x1,x2,x3,x4]:List D).length:Nat):Int)=5:=rfl
def wP (x0 x1 x2 x3 x4 x5:D):((([x0,x1,x2,x3,x4,x5]:List D).length:Nat):Int)=6:=rfl
def wO (x0 x1 x2 x3 x4 x5 x6:D):((([x0,x1,x2,x3,x4,x5,x6]:List D).length:Nat):Int)=7:=rfl
def wN (x0 x1 x2 x3 x4 x5 x6 x7:D):((([x0,x1,x2,x3,x4,x5,x6,x7]:List D).length:Nat):Int)=8:=rfl
def wM (x0 x1 x2 x3 x4 x5 x6 x7 x8:D):((([x0,x1,x2,x3,x4,x5,x6,x7,x8]:List D).length:Nat):Int)=9:=rfl
def wL (α β:Type) (f:α->β) (l:List α):(l.map f).length=l.length:=zad f
def wK:br [.list ts]=some (.int ts.length):=rfl
def wJ:br [.tuple ts]=some (.int ts.length):=rfl
def wI (z:Str):W (br [.str z]) Qd=(z.length<=sizeLine/\Qd (.int z.length)):=qY _ _ _
def wH (a:Int):iR [.int a]=some (.int (if a < 0 then -a else a)):=rfl
def wG (a:Int):gp [.int a]=some (.int a):=rfl
def wF:gp [.bool true]=some (.int 1):=rfl
def wE:gp [.bool false]=some (.int 0):=rfl
def wD (a:Int):lM (.int a)=some (.int (-a)):=rfl
def wC:gI [.list ts]=some (.list ts):=rfl
def wB (n:Int):ixA (.list ts) (.int n)=atI ts n:=rfl
def wA:gI [.tuple ts]=some (.list ts):=rfl
def wz (n:Int):ixA (.tuple ts) (.int n)=atI ts n:=rfl
def wy (ts us:List D):W (jD (.list ts) (.list us)) Qd=(ts.length+us.length<=sizeLine/\Qd (.list (ts++us))):=hU _ _ _
def wx:atI ts 0=ts[0]?:=aV ts _
def ww:atI ts 1=ts[1]?:=aV ts _
def wv:atI ts 2=ts[2]?:=aV ts _
def wu:atI ts 3=ts[3]?:=aV ts _
def wt:atI ts 4=ts[4]?:=aV ts _
def wq:atI ts 5=ts[5]?:=aV ts _
def wp:atI ts 6=ts[6]?:=aV ts _
def wo:atI ts 7=ts[7]?:=aV ts _
def wn:atI ts 8=ts[8]?:=aV ts _
def wm:atI ts 9=ts[9]?:=aV ts _
def wl:atI ts 10=ts[10]?:=aV ts _
def wj:atI ts 11=ts[11]?:=aV ts _
def wg:atI ts 12=ts[12]?:=aV ts _
def wf:atI ts 13=ts[13]?:=aV ts _
def we:atI ts 14=ts[14]?:=aV ts _
def wd:atI ts 15=ts[15]?:=aV ts _
def wc:atI ts 16=ts[16]?:=aV ts _
def wa:atI ts 17=ts[17]?:=aV ts _
def v9:atI ts 18=ts[18]?:=aV ts _
def v8:atI ts 19=ts[19]?:=aV ts _
def v7:atI ts 20=ts[20]?:=aV ts _
def v6 (t:D):(t :: ts)[0]?=some t:=rfl
def v5 (t:D):(t :: ts)[i+1]?=ts[i]?:=List.getElem?_cons_succ
def v4 (a b:Bool):eqD (.bool a) (.bool b)=some (.bool (a == b)):=Cc a b
def v3 (a b:Bool):neD (.bool a) (.bool b)=some (.bool (!(a == b))):=Bd a b
def vZ (a b:Str):eqD (.str a) (.str b)=some (.bool (decide (a=b))):=Gc a b
def vY (a b:Str):neD (.str a) (.str b)=some (.bool (!decide (a=b))):=EO a b
def vX:neD (.list []) (.list [])=some (.bool false):=EQ
def vW:eqD (.list []) (.list [])=some (.bool true):=Gd
def vV (a:Bool):(a == a)=true:=beq_self_eq_true a
def vU:(true == false)=false:=rfl
def vT:(false == true)=false:=rfl
def vS (t:D) (ts acc:List D):W (lcF g c f (t :: ts) acc en) Ql=W (g t en) (kL1 g c f ts acc Ql):=by unfold lcF; rw [au]; congr 1; funext z; rw [au]; rfl
def vR (ts acc:List D):kL1 g c f ts acc Ql en=W (c en) (kL2 g c f ts acc Ql):=rfl
def vQ (ts acc:List D):kL2 g c f ts acc Ql (true,en)=W (f en) (kL3 g c f ts acc Ql):=au _ _ _
def vP (ts acc:List D):kL2 g c f ts acc Ql (false,en)=W (lcF g c f ts acc en) Ql:=rfl
def vO (ts acc:List D) (t:D):kL3 g c f ts acc Ql (t,en)=(acc.length < sizeLine/\W (lcF g c f ts (acc++[t]) en) Ql):=Hl _ _ _
def vN (m:List D):([]++m:List D)=m:=rfl
def vM (x:D) (l m:List D):((x :: l)++m:List D)=x :: (l++m):=rfl
def vL:(([]:List D).length < sizeLine)=True:=eq_true (zag (by show 0 < 100; decide) be)
def vK (x0:D):(([x0]:List D).length < sizeLine)=True:=eq_true (zag (by show 1 < 100; decide) be)
def vJ (x0 x1:D):(([x0,x1]:List D).length < sizeLine)=True:=eq_true (zag (by show 2 < 100; decide) be)
def vI (x0 x1 x2:D):(([x0,x1,x2]:List D).length < sizeLine)=True:=eq_true (zag (by show 3 < 100; decide) be)
def vH (x0 x1 x2 x3:D):(([x0,x1,x2,x3]:List D).length < sizeLine)=True:=eq_true (zag (by show 4 < 100; decide) be)
def vG (x0 x1 x2 x3 x4:D):(([x0,x1,x2,x3,x4]:List D).length < sizeLine)=True:=eq_true (zag (by show 5 < 100; decide) be)
def vF (x0 x1 x2 x3 x4 x5:D):(([x0,x1,x2,x3,x4,x5]:List D).length < sizeLine)=True:=eq_true (zag (by show 6 < 100; decide) be)
def vE (x0 x1 x2 x3 x4 x5 x6:D):(([x0,x1,x2,x3,x4,x5,x6]:List D).length < sizeLine)=True:=eq_true (zag (by show 7 < 100; decide) be)
def vD (x0 x1 x2 x3 x4 x5 x6 x7:D):(([x0,x1,x2,x3,x4,x5,x6,x7]:List D).length < sizeLine)=True:=eq_true (zag (by show 8 < 100; decide) be)
def vC (x0 x1 x2 x3 x4 x5 x6 x7 x8:D):(([x0,x1,x2,x3,x4,x5,x6,x7,x8]:List D).length < sizeLine)=True:=eq_true (zag (by show 9 < 100; decide) be)
def vB:ku [.list []]=some (.bool true):=rfl
def vA (a:Bool):ku [.list [.bool a]]=some (.bool a):=by cases a <;> rfl
def vz (a b:Bool):ku [.list [.bool a,.bool b]]=some (.bool (a && b)):=by cases a <;> cases b <;> rfl
def vy:tW [.list []]=some (.int 0):=rfl
def vx (a:Int):tW [.list [.int a]]=some (.int a):=by show some (PyData.int (a+0))=_; rw [Int.add_zero]
def vw (a b:Int):tW [.list [.int a,.int b]]=some (.int (a+b)):=by show some (PyData.int (a+(b+0)))=_; rw [Int.add_zero]
def vv (x:D) (l:List D):fP (x :: l) (some 1) none=l:=Ch x l
def vt (x:D) (l:List D):(HT.sIx (x :: l).length 0 (some 1)=0)=False:=Hk x l
def vq (p:Prop):(False/\p)=False:=false_and p
def vp:(¬ False)=True:=not_false_eq_true
def vo:(!true)=false:=rfl
def vn:(!false)=true:=rfl
def vm (p:Prop):(True/\p)=p:=true_and p
def vk (p:Prop):(p/\True)=p:=and_true p
def vj (_:Decidable True):decide True=true:=zaB trivial
def vi (_:Decidable False):decide False=false:=zaA (fun z=>z)
def vh (α:Sort 1) (a:α):(a=a)=True:=eq_self a
end
def zzI {a b:Prop} (x:a) (y:b):a/\b:=⟨x,y⟩
def Cz:=zzI @ws0 (zzI @ws1 (zzI @ws2 (zzI @ws3 (zzI @ws4 (zzI @ws5 (zzI @ws6 (zzI @ws7 (zzI @ws8 (zzI @ws9 (zzI @D9 (zzI @D8 (zzI @D7 (zzI @D6 (zzI @D5 (zzI @D4 (zzI @D3 (zzI @D2 (zzI @D1 (zzI @D0 (zzI @DZ (zzI @DY (zzI @DX (zzI @DW (zzI @DU (zzI @DT (zzI @DS (zzI @DR (zzI @DQ (zzI @DP (zzI @DN (zzI @DM (zzI @DL (zzI @DK (zzI @DJ (zzI @DI (zzI @DH (zzI @DG (zzI @DF @DE))))))))))))))))))))))))))))))))))))))
def Cy:=zzI @DD (zzI @DC (zzI @DB (zzI @DA (zzI @Dz (zzI @Dy (zzI @Dx (zzI @Dw (zzI @Dv (zzI @Du (zzI @Dt (zzI @Ds (zzI @Dr (zzI @Dq (zzI @Dp (zzI @Do (zzI @Dm (zzI @Dl (zzI @Dk (zzI @Dj (zzI @Di (zzI @Dh (zzI @Dg (zzI @De (zzI @Dd (zzI @Dc (zzI @Db (zzI @Da (zzI @C9 (zzI @C8 (zzI @C7 (zzI @C6 (zzI @C5 (zzI @C4 (zzI @C3 (zzI @C2 (zzI @C1 (zzI @C0 (zzI @CZ @CY))))))))))))))))))))))))))))))))))))))
def Cw:=zzI @CW (zzI @CV (zzI @CU (zzI @CT (zzI @CQ (zzI @CP (zzI @CO (zzI @CN (zzI @CM (zzI @CL (zzI @CK (zzI @CJ (zzI @CI (zzI @CH (zzI @CG (zzI @CF (zzI @CD (zzI @CC (zzI @CB (zzI @CA (zzI @Ae (zzI @Ad (zzI @Ac (zzI @Ab (zzI @Aa (zzI @zZ (zzI @zY (zzI @zX (zzI @zW (zzI @zV (zzI @zU (zzI @zT (zzI @zS (zzI @zR (zzI @zQ (zzI @zP (zzI @zO (zzI @zN (zzI @zM @zK))))))))))))))))))))))))))))))))))))))
def Cv:=zzI @zJ (zzI @zI (zzI @zH (zzI @zG (zzI @zF (zzI @zE (zzI @zC (zzI @zB (zzI @zA (zzI @zz (zzI @zy (zzI @zx (zzI @zw (zzI @zv (zzI @zu (zzI @zt (zzI @zr (zzI @zq (zzI @zp (zzI @zo (zzI @zn (zzI @zm (zzI @zh (zzI @zg (zzI @zd (zzI @zc (zzI @zb (zzI @y9 (zzI @y8 (zzI @y6 (zzI @y4 (zzI @y3 (zzI @yZ (zzI @yY (zzI @yX (zzI @yW (zzI @yV (zzI @yU (zzI @yT @yS))))))))))))))))))))))))))))))))))))))
def Cu:=zzI @yR (zzI @yQ (zzI @yP (zzI @yO (zzI @yN (zzI @yM (zzI @yL (zzI @yK (zzI @yJ (zzI @yI (zzI @yH (zzI @yG (zzI @yF (zzI @yE (zzI @yD (zzI @yC (zzI @yB (zzI @yA (zzI @yz (zzI @yy (zzI @yx (zzI @yw (zzI @yv (zzI @yu (zzI @yt (zzI @yr (zzI @yq (zzI @yo (zzI @yn (zzI @ym (zzI @yk (zzI @yj (zzI @yi (zzI @yh (zzI @yg (zzI @yf (zzI @ye (zzI @yd (zzI @yc @yb))))))))))))))))))))))))))))))))))))))
def Ct:=zzI @ya (zzI @xZ (zzI @xY (zzI @xX (zzI @xW (zzI @xV (zzI @xU (zzI @xT (zzI @xS (zzI @xR (zzI @xQ (zzI @xP (zzI @xO (zzI @xN (zzI @xM (zzI @xL (zzI @xK (zzI @xJ (zzI @xI (zzI @xH (zzI @xG (zzI @xF (zzI @xE (zzI @xD (zzI @xC (zzI @xB (zzI @xA (zzI @xz (zzI @xy (zzI @xx (zzI @xw (zzI @xv (zzI @xu (zzI @xt (zzI @xr (zzI @xq (zzI @xo (zzI @xn (zzI @xm @xl))))))))))))))))))))))))))))))))))))))
def Cs:=zzI @xk (zzI @xj (zzI @xi (zzI @xh (zzI @xg (zzI @xf (zzI @xc (zzI @xb (zzI @xa (zzI @w8 (zzI @w6 (zzI @w4 (zzI @wZ (zzI @wY (zzI @wX (zzI @wW (zzI @wV (zzI @wU (zzI @wT (zzI @wS (zzI @wR (zzI @wQ (zzI @wP (zzI @wO (zzI @wN (zzI @wM (zzI @wL (zzI @wK (zzI @wJ (zzI @wI (zzI @wH (zzI @wG (zzI @wF (zzI @wE (zzI @wD (zzI @wC (zzI @wB (zzI @wA (zzI @wz @wy))))))))))))))))))))))))))))))))))))))
def Cr:=zzI @wx (zzI @ww (zzI @wv (zzI @wu (zzI @wt (zzI @wq (zzI @wp (zzI @wo (zzI @wn (zzI @wm (zzI @wl (zzI @wj (zzI @wg (zzI @wf (zzI @we (zzI @wd (zzI @wc (zzI @wa (zzI @v9 (zzI @v8 (zzI @v7 (zzI @v6 (zzI @v5 (zzI @v4 (zzI @v3 (zzI @vZ (zzI @vY (zzI @vX (zzI @vW (zzI @vV (zzI @vU (zzI @vT (zzI @vS (zzI @vR (zzI @vQ (zzI @vP (zzI @vO (zzI @vN (zzI @vM @vL))))))))))))))))))))))))))))))))))))))
def Cq:=zzI @vK (zzI @vJ (zzI @vI (zzI @vH (zzI @vG (zzI @vF (zzI @vE (zzI @vD (zzI @vC (zzI @vB (zzI @vA (zzI @vz (zzI @vy (zzI @vx (zzI @vw (zzI @vv (zzI @vt (zzI @vq (zzI @vp (zzI @vo (zzI @vn (zzI @vm (zzI @vk (zzI @vj (zzI @vi @vh))))))))))))))))))))))))
def ws:=zzI @Cz (zzI @Cy (zzI @Cw (zzI @Cv (zzI @Cu (zzI @Ct (zzI @Cs (zzI @Cr @Cq)))))))
end L2
namespace L2
namespace Pen3
open PySem L2
def eD:MS:=(aj (aq 2 (eC (.int 0)))
 (aj (sIf (tV (e2 gtI (eN br (ad (aa 0) ah)) (eC (.int 0)))) (aq 2 (e2 ixA (aa 0) (e2 bp (aa 1) (eN br (ad (aa 0) ah))))) aW)
 (aj (sIf (cu (tV (e2 ltI (aa 1) (eN br (ad (aa 0) ah)))) (tV (e2 geI (eN iR (ad (aa 2) ah)) (e2 lE (eC (.int 10)) (eC (.int 18)))))) (aI (aO (ad (eN iR (ad (aa 2) ah)) (ad (eC (.int 0)) (ad (eC (.int 0)) ah))))) aW)
 (aI (aO (ad (eC (.int 0)) (ad (e2 aQ (e2 bp (aa 2) (eC (.int 999999937))) (e2 bF (eC (.int 70001)) (aa 1))) (ad (eC (.int 0)) ah))))))))
def bK:List D->Option (D × En):=fnF 1 [0,0] eD
def jb:MS:=(aj (sIf (tV (e2 gtI (dW 0 (eC (.int 0))) (eC (.int 0)))) (aj (aq 2 (e2 bp (dW 0 (eC (.int 0))) (aa 1)))
 (aj (bY 0 (eC (.int 0)) (e2 bZ (dW 0 (eC (.int 0))) (aa 1)))
 (aI (aa 2)))) aW)
 (aj (bY 0 (eC (.int 2)) (e2 aQ (dW 0 (eC (.int 2))) (eC (.int 1))))
 (aj (aq 3 (e2 bp (e2 aQ (e2 aQ (e2 bF (dW 0 (eC (.int 1))) (eC (.int 48271))) (e2 bF (dW 0 (eC (.int 2))) (eC (.int 39373)))) (eC (.int 11))) (eC (.int 2147483647))))
 (aj (aq 3 (e2 bp (e2 bF (aa 3) (e2 aQ (e2 bp (aa 3) (eC (.int 65521))) (dW 0 (eC (.int 2))))) (eC (.int 2147483629))))
 (aI (e2 bp (e2 bZ (aa 3) (eC (.int 64))) (aa 1)))))))
def F_law_draw:List D->Option (D × En):=fnF 2 [1,0] jb
def eJ (a b c:Int):D:=.list [.int a,.int b,.int c]
def IsPen (t:D):Prop:=∃ a b c,t=eJ a b c
def draw_ok {p:D} {m:Int} (hp:IsPen p) (h3:0 < m) (h4:m < 1073741824):∃ r p',F_law_draw [p,.int m]=some (.int r,[some p',none])/\0<=r/\r < m/\IsPen p':=by
 obtain ⟨a,b,c,rfl⟩:=hp;have cd:∀ z,fT z m:=fun z=>⟨h3,h4⟩;have md:∀ z,bp (.int z) (.int m)=some (.int (z % m)):=fun z=>if_pos h3;have dv:∀ z,bZ (.int z) (.int m)=some (.int (z / m)):=fun z=>if_pos (cd z);by_cases ha:0 < a
 ·refine ⟨a % m,eJ (a / m) b c,?_,zba _ (by omega),zbb _ h3,_,_,_,rfl⟩;refine dF (b:=jb) (en:=[some (eJ (a / m) b c),some (.int m),some (.int (a % m)),none]) (iq (eQ (b:=decide ((0:Int) < a)) rfl (zaB ha) (aE (en1:=[some (eJ a b c),some (.int m),some (.int (a % m)),none]) (bR (bf (t1:=.int a) (t2:=.int m) rfl rfl (md a)) rfl) (aE (en1:=[some (eJ (a / m) b c),some (.int m),some (.int (a % m)),none]) ?_ rfl))));unfold bY;rw [bf (t1:=.int a) (t2:=.int m) (f1:=dW 0 (eC (.int 0))) (f2:=aa 1) (g:=bZ) (en:=[some (eJ a b c),some (.int m),some (.int (a % m)),none]) (en1:=[some (eJ a b c),some (.int m),some (.int (a % m)),none]) (en2:=[some (eJ a b c),some (.int m),some (.int (a % m)),none]) rfl rfl (dv a)];rfl
 ·generalize g1:(b * 48271+(c+1) * 39373+11) % 2147483647=x;have x0:0<=x:=by omega
  have x1:x < 2147483647:=by omega
  generalize g2:x * (x % 65521+(c+1)) % 2147483629=y;refine ⟨y / 64 % m,eJ a b (c+1),?_,zba _ (by omega),zbb _ h3,_,_,_,rfl⟩;have c1:bF (.int b) (.int 48271)=some (.int (b * 48271)):=if_pos (.inr (by decide));have c2:bF (.int (c+1)) (.int 39373)=some (.int ((c+1) * 39373)):=if_pos (.inr (by decide));have c3:bF (.int x) (.int (x % 65521+(c+1)))=some (.int (x * (x % 65521+(c+1)))):=if_pos (.inl (by constructor <;> omega));have c80:fT y 64:=⟨by decide,by decide⟩;have c8:bZ (.int y) (.int 64)=some (.int (y / 64)):=by
   show (if fT y 64 then some (PyData.int (y / 64)) else none)=_;rw [if_pos c80]
  refine dF (b:=jb) (en:=[some (eJ a b (c+1)),some (.int m),none,some (.int y)]) (aE (en1:=[some (eJ a b c),some (.int m),none,none]) (jv (b:=decide ((0:Int) < a)) rfl (zaA ha) rfl)
   (aE (en1:=[some (eJ a b (c+1)),some (.int m),none,none]) rfl
   (aE (en1:=[some (eJ a b (c+1)),some (.int m),none,some (.int x)]) (bR (bf (t2:=.int 2147483647) (bf (bf (bf (t1:=.int b) (t2:=.int 48271) rfl rfl c1) (bf (t1:=.int (c+1)) (t2:=.int 39373) rfl rfl c2) rfl) rfl rfl) rfl (by rw [<- g1]; rfl)) rfl)
   (aE (en1:=[some (eJ a b (c+1)),some (.int m),none,some (.int y)]) (bR (bf (t2:=.int 2147483629) (bf (t1:=.int x) (t2:=.int (x % 65521+(c+1))) rfl (bf (t1:=.int (x % 65521)) (t2:=.int (c+1)) rfl rfl rfl) c3) rfl (by rw [<- g2]; rfl)) rfl)
   (kX (bf (t2:=.int m) (bf (t1:=.int y) (t2:=.int 64) rfl rfl c8) rfl (md _)))))))
end Pen3
end L2
namespace L2
open PySem PySem.Spec PyProof.Rows
def jX {g:MG} {b:MS} {ts:List D} {en:En} {Q:Fl->Prop} (I:Nat->En->Prop) (h0:I 0 en)
  (hs:∀ i t en,ts[i]?=some t->I i en->W (g t en) (kFg b (I (i+1)) Q)) (hq:∀ en,I ts.length en->Q (.nx en)):W (bW g b ts en) Q:=by
 suffices ∀ (us:List D) (i:Nat) (en:En),ts.drop i=us->i<=ts.length->I i en->W (bW g b us en) Q from this ts 0 en rfl (Nat.zero_le _) h0
 intro us
 induction us with
 | nil =>
  intro i en hu hi h
  have:ts.length - i=0:=by rw [<- zaF,hu]; rfl
  simp only [ws];exact hq en (by rw [show ts.length=i by omega]; exact h)
 | cons t us ih =>
  intro i en hu hi h;have ht:ts[i]?=some t:=by
   have:(ts.drop i)[0]?=some t:=by rw [hu]; rfl
   rw [List.getElem?_drop] at this;exact this
  have hl:i < ts.length:=(zah.mp ht).1;have hd:ts.drop (i+1)=us:=by rw [<- List.drop_drop,hu]; rfl
  simp only [ws];refine (hs i t en ht h).use fun en1 h1=>?_;simp only [ws] at h1 ⊢;refine h1.use fun fl h2=>?_;cases fl with
  | nx e=>simp only [ws] at h2 ⊢; exact ih (i+1) e hd hl h2
  | ct e=>simp only [ws] at h2 ⊢; exact ih (i+1) e hd hl h2
  | rt t e=>simp only [ws] at h2 ⊢; exact h2
def HN {g:MG} {c:MT} {f:ME} {ts:List D} {en:En} {Q:List D × En->Prop} (I:Nat->List D->En->Prop) (hz:ts.length<=sizeLine) (h0:I 0 [] en)
  (hs:∀ i t us en,ts[i]?=some t->us.length<=i->I i us en->W (g t en) (E6 c f us (I (i+1)))) (hq:∀ us en,us.length<=ts.length->I ts.length us en->Q (us,en)):W (lcF g c f ts [] en) Q:=by
 suffices ∀ (vs:List D) (i:Nat) (us:List D) (en:En),ts.drop i=vs->i<=ts.length->us.length<=i->I i us en->W (lcF g c f vs us en) Q from this ts 0 [] en rfl (Nat.zero_le _) (Nat.zero_le _) h0
 intro vs
 induction vs with
 | nil =>
  intro i us en hu hi hl h
  have:ts.length - i=0:=by rw [<- zaF,hu]; rfl
  simp only [ws];exact hq us en (by omega) (by rw [show ts.length=i by omega]; exact h)
 | cons t vs ih =>
  intro i us en hu hi hl h;have ht:ts[i]?=some t:=by
   have:(ts.drop i)[0]?=some t:=by rw [hu]; rfl
   rw [List.getElem?_drop] at this;exact this
  have hlt:i < ts.length:=(zah.mp ht).1;have hd:ts.drop (i+1)=vs:=by rw [<- List.drop_drop,hu]; rfl
  unfold lcF;rw [au];refine (hs i t us en ht hl h).use fun en1 h1=>?_;simp only [ws] at h1;rw [au];refine h1.use fun r h2=>?_;obtain ⟨x,en2⟩:=r;cases x with
  | true =>
   simp only [ws] at h2;show W ((f en2).bind _) Q;rw [au];refine h2.use fun q h3=>?_;obtain ⟨u,en3⟩:=q;simp only [ws] at h3;show W (if us.length < sizeLine then _ else _) Q;rw [if_pos (by omega)];exact ih (i+1) _ _ hd hlt (by rw [zae]; show _+1<=_; omega) h3
  | false =>
   simp only [ws] at h2;exact ih (i+1) _ _ hd hlt (by omega) h2
def mi {c:MT} {b:MS} {en:En} {Q:Fl->Prop} (I:Nat->En->Prop) (hs:∀ n en,I n en->W (c en) (kWh b (fun e=>∃ m,m < n/\I m e) Q)) {n:Nat} (h0:I n en):W (bN c b en) Q:=by
 induction n using Nat.strongRecOn generalizing en with
 | _ n ih =>
  obtain ⟨⟨x,en1⟩,e1,h1⟩:=(hs n en h0).ex;cases x with
  | false=>simp only [ws] at h1; exact W.of (oG e1) h1
  | true =>
   simp only [ws] at h1;obtain ⟨fl,e2,h2⟩:=h1.ex;cases fl with
   | nx e =>
    obtain ⟨m,hm,hi⟩:∃ m,m < n/\I m e:=h2;obtain ⟨fl,e3,h3⟩:=(ih m hm hi).ex;exact W.of (oH e1 e2 e3) h3
   | ct e =>
    obtain ⟨m,hm,hi⟩:∃ m,m < n/\I m e:=h2;obtain ⟨fl,e3,h3⟩:=(ih m hm hi).ex;obtain ⟨k,h4⟩:=gU e3;refine W.of (gH (n:=k+1) ?_) h3;unfold whN;rw [e1];show (b en1).bind _=_;rw [e2];exact h4
   | rt t e =>
    refine W.of (gH (n:=1) ?_) (show Q (.rt t e) from h2);unfold whN;rw [e1];show (b en1).bind _=_;rw [e2];rfl
def fH {f:ME} {ts:List D} {o:Option D} {rest:En} {Q:List D × En->Prop} (F:D->D) (hz:ts.length<=sizeLine) (hf:∀ t∈ts,W (f (some t :: rest)) (fun r=>r=(F t,some t :: rest))) (hq:∀ o',Q (ts.map F,o' :: rest)):W (lcF (gN 0) cY f ts [] (o :: rest)) Q:=by
 obtain ⟨o',e⟩:=pE (f:=f) (F:=F) (rest:=rest) ts [] o (fun t ht=>by
  obtain ⟨r,e,h⟩:=(hf t ht).ex;rw [e,h]) (by simpa using hz)
 exact W.of e (hq o')
def tJ {c:MT} {f:ME} {ts:List D} {o:Option D} {rest:En} {Q:List D × En->Prop} (p:D->Bool) (F:D->D) (hz:ts.length<=sizeLine) (hc:∀ t∈ts,W (c (some t :: rest)) (fun r=>r=(p t,some t :: rest))) (hf:∀ t∈ts,p t=true->W (f (some t :: rest)) (fun r=>r=(F t,some t :: rest))) (hq:∀ o',Q ((ts.filter p).map F,o' :: rest)):W (lcF (gN 0) c f ts [] (o :: rest)) Q:=by
 obtain ⟨o',e⟩:=fV (c:=c) (f:=f) (p:=p) (F:=F) (rest:=rest) ts [] o (fun t ht=>by
  obtain ⟨r,e,h⟩:=(hc t ht).ex;rw [e,h]) (fun t ht hp=>by
  obtain ⟨r,e,h⟩:=(hf t ht hp).ex;rw [e,h]) (by simpa using hz)
 exact W.of e (hq o')
def rF {α:Type} {ts:List α} {i:Nat} {t:α} (h:ts[i]?=some t):ts.take (i+1)=ts.take i++[t]:=by
 rw [List.take_add_one,h]; rfl
def Gp {g:MG} {f:ME} {ts:List D} {en:En} {Q:List D × En->Prop} (J:En->Prop) (F:D->D) (hz:ts.length<=sizeLine) (h0:J en) (hs:∀ t∈ts,∀ en,J en->W (g t en) (fun en1=>W (f en1) (fun r=>r.1=F t/\J r.2))) (hq:∀ en,J en->Q (ts.map F,en)):W (lcF g cY f ts [] en) Q:=by
 refine HN (fun i us en=>us=(ts.take i).map F/\J en) hz ⟨rfl,h0⟩ (fun i t us en ht _ ⟨e,hj⟩=>?_) fun us en _ ⟨e,hj⟩=>?_
 ·refine (hs t (zaX ht) en hj).use fun en1 h1=>?_;simp only [ws];refine h1.use fun r h2=>?_;obtain ⟨u,en2⟩:=r;simp only [ws];refine ⟨?_,h2.2⟩;rw [rF ht,zaC,e];show _++[u]=_++[F t];rw [show u=F t from h2.1]
 ·rw [e,zaQ];exact hq en hj
def jR {i:Int} {n k:Nat} {t:D} (h:(e9 i n)[k]?=some t):k < n/\t=.int (i+(k:Nat)):=by
 unfold e9 at h;rw [zao] at h;obtain ⟨j,hj,rfl⟩:=zab.mp h;obtain ⟨hl,e⟩:=zah.mp hj;rw [List.getElem_range] at e;rw [List.length_range] at hl;exact ⟨hl,by rw [e]⟩
def de (i:Int) (n:Nat):(e9 i n).length=n:=by unfold e9; rw [zad,List.length_range]
def cV {p:D} {m:Int} (hp:Pen3.IsPen p) (h3:0 < m) (h4:m < 1073741824) {Q:D × En->Prop} (h:∀ r p',0<=r->r < m->Pen3.IsPen p'->Q (.int r,[some p',none])):W (Pen3.F_law_draw [p,.int m]) Q:=by
 obtain ⟨r,p',e,h1,h2,h5⟩:=Pen3.draw_ok hp h3 h4;exact W.of e (h r p' h1 h2 h5)
end L2
namespace Mch
open PySem L2 Pen2
def fy:MS:=(aI (e2 ixA (aO (ad (eC (.int 2)) (ad (eC (.int 1)) (ad (eC (.int 3)) (ad (eC (.int 2)) (ad (eC (.int 4)) (ad (eC (.int 3)) (ad (eC (.int 2)) (ad (e2 aQ (eC (.int 5)) (am ak (az 0 (ad (eC (.int 8)) ah)))) ah))))))))) (am ak (az 0 (ad (eC (.int 8)) ah)))))
def bq:List D->Option (D × En):=fnF 0 [1] fy
def dA:MS:=(aj (aq 4 (am ak (az 0 (ad (e2 aQ (aa 2) (eC (.int 1))) ah))))
 (aj (sIf (bOr (tV (e2 eqD (aa 4) (aa 2))) (cu (tV (e2 eqD (aa 3) (eC (.int 1)))) (tV (e2 leI (aa 4) (aa 1))))) (aI (eC .none)) aW)
 (aI (aa 4))))
def bx:List D->Option (D × En):=fnF 1 [1,0,0,0] dA
def cy:MS:=(aj (aq 3 (e2 aQ (eC (.int 1)) (am ak (az 0 (ad (aa 2) ah)))))
 (aj (aq 4 (am ak (az 0 (ad (eC (.int 4)) ah))))
 (aj (aq 5 (e2 aQ (eC (.int 1)) (am ak (az 0 (ad (aa 3) ah)))))
 (aj (aq 6 (aO ah))
 (aj (aq 7 (aO ah))
 (aj (cC (bt (ad (aa 3) ah)) (gN 8) (aj (bh (bG 6 (e2 eqD (am ak (az 0 (ad (eC (.int 3)) ah))) (eC (.int 0)))))
 (aj (aq 9 (eLC false (bt (ad (aa 1) ah)) (gN 0) cY (am bx (az 1 (ad (aa 4) (ad (aa 2) (ad (aa 3) ah))))) [none,some 0,some 3,some 4,some 8]))
 (aj (sIf (cu (tV (e2 eqD (aa 4) (eC (.int 2)))) (tV (e2 ltI (aa 8) (aa 5)))) (aj (bY 6 (aa 8) (eC (.bool false)))
 (aq 9 (eLC true (cE (aa 9)) (gN 0) cY (e2 ixA (aO (ad (aa 0) (ad (eC .none) ah))) (eN gp (ad (eOr (e2 isN (aa 0) (eC .none)) (e2 geI (aa 0) (aa 1))) ah))) [none,some 5]))) aW)
 (bh (bG 7 (aa 9)))))))
 (aI (cR (ad (aa 6) (ad (aa 7) ah))))))))))
def bd:List D->Option (D × En):=fnF 7 [1,0,0] cy
def goD:Option Nat->D
 | none=>.none
 | some j=>.int j
def aC (r:List (Option Nat)):D:=.list (r.map goD)
def Hv (es:List Bool) (gs:List (List (Option Nat))):D:=.tuple [.list (es.map .bool),.list (gs.map aC)]
def iW (S W:Nat) (r:List (Option Nat)):Prop:=r.length=W/\∀ o∈r,∀ j,o=some j->j < S
def tY {ns:List Int} {k l:Int} (h0:0<=k) (h1:k<=1000) (h2:0<=l):∃ (s:Nat) (k' l':Int),bq [penD ns k l]=some (.int s,[some (penD ns k' l')])/\1<=s/\s<=12/\k<=k'/\k'<=k+2/\0<=l':=by
 obtain ⟨r1,k1,l1,e1,a1,a2,a3,a4,a5⟩:=ff (ns:=ns) (k:=k) (l:=l) (m:=8) (i:=0) (en:=[some (penD ns k l)]) (fa:=az 0 (ad (eC (.int 8)) ah)) rfl rfl h0 (by omega) h2 (by decide) (by decide);obtain ⟨r2,k2,l2,e2',b1,b2,b3,b4,b5⟩:=ff (ns:=ns) (k:=k1) (l:=l1) (m:=8) (i:=0) (en:=[some (penD ns k1 l1)]) (fa:=az 0 (ad (eC (.int 8)) ah)) rfl rfl (by omega) (by omega) a5 (by decide) (by decide);have hx:∃ s:Nat,ixA (.list [.int 2,.int 1,.int 3,.int 2,.int 4,.int 3,.int 2,.int (5+r1)]) (.int r2)=some (.int s)/\1<=s/\s<=12:=by
  have:r2=0\/r2=1\/r2=2\/r2=3\/r2=4\/r2=5\/r2=6\/r2=7:=by omega
  rcases this with rfl | rfl | rfl | rfl | rfl | rfl | rfl | rfl
  ·exact ⟨2,rfl,by decide,by decide⟩
  ·exact ⟨1,rfl,by decide,by decide⟩
  ·exact ⟨3,rfl,by decide,by decide⟩
  ·exact ⟨2,rfl,by decide,by decide⟩
  ·exact ⟨4,rfl,by decide,by decide⟩
  ·exact ⟨3,rfl,by decide,by decide⟩
  ·exact ⟨2,rfl,by decide,by decide⟩
  ·refine ⟨(5+r1).toNat,?_,by omega,by omega⟩;rw [show (((5+r1).toNat:Nat):Int)=5+r1 by omega];rfl
 obtain ⟨s,ex,s1,s2⟩:=hx;refine ⟨s,k2,l2,?_,s1,s2,by omega,by omega,b5⟩;refine dF (en:=[some (penD ns k2 l2)]) (kX (bf (en1:=[some (penD ns k1 l1)]) (om (gO rfl (gO rfl (gO rfl (gO rfl (gO rfl (gO rfl (gO rfl (gO (bf rfl e1 rfl) rfl)))))))) rfl ?_) e2' ex));exact zau (by show 8<=100; decide) be
def Br {ns:List Int} {k l way:Int} {i S:Nat} (hS:S<=60) (h0:0<=k) (h1:k<=10000) (h2:0<=l):∃ (o:Option Nat) (k' l':Int),bx [penD ns k l,.int i,.int S,.int way]=some (goD o,[some (penD ns k' l'),none,none,none])/\(∀ j,o=some j->j < S)/\k<=k'/\k'<=k+1/\0<=l':=by
 obtain ⟨r1,k1,l1,e1,a1,a2,a3,a4,a5⟩:=ff (ns:=ns) (k:=k) (l:=l) (m:=S+1) (i:=0) (en:=[some (penD ns k l),some (.int i),some (.int S),some (.int way),none]) (fa:=az 0 (ad (e2 aQ (aa 2) (eC (.int 1))) ah)) rfl rfl h0 (by omega) h2 (by omega) (by omega);have c1:(tV (e2 eqD (aa 4) (aa 2))) [some (penD ns k1 l1),some (.int i),some (.int S),some (.int way),some (.int r1)]=some (r1 == (S:Int),[some (penD ns k1 l1),some (.int i),some (.int S),some (.int way),some (.int r1)]):=rfl;have c2:(tV (e2 eqD (aa 3) (eC (.int 1)))) [some (penD ns k1 l1),some (.int i),some (.int S),some (.int way),some (.int r1)]=some (way == 1,[some (penD ns k1 l1),some (.int i),some (.int S),some (.int way),some (.int r1)]):=rfl;have c3:(tV (e2 leI (aa 4) (aa 1))) [some (penD ns k1 l1),some (.int i),some (.int S),some (.int way),some (.int r1)]=some (decide (r1<=(i:Int)),[some (penD ns k1 l1),some (.int i),some (.int S),some (.int way),some (.int r1)]):=rfl;obtain ⟨b,cb,hb⟩:∃ b,(bOr (tV (e2 eqD (aa 4) (aa 2))) (cu (tV (e2 eqD (aa 3) (eC (.int 1)))) (tV (e2 leI (aa 4) (aa 1))))) [some (penD ns k1 l1),some (.int i),some (.int S),some (.int way),some (.int r1)]=some (b,[some (penD ns k1 l1),some (.int i),some (.int S),some (.int way),some (.int r1)])/\(b=false->r1≠S):=by
  cases q1:(r1 == (S:Int)) with
  | true=>exact ⟨true,oh c1 q1,fun z=>by cases z⟩
  | false =>
   have n1:r1≠S:=by simpa using q1
   cases q2:(way == 1) with
   | true=>exact ⟨_,kY c1 q1 (pW c2 q2 c3),fun _=>n1⟩
   | false=>exact ⟨_,kY c1 q1 (pX c2 q2),fun _=>n1⟩
 cases b with
 | true=>exact ⟨none,k1,l1,dF (b:=dA) (t:=.none) (en:=[some (penD ns k1 l1),some (.int i),some (.int S),some (.int way),some (.int r1)]) (aE (en1:=[some (penD ns k1 l1),some (.int i),some (.int S),some (.int way),some (.int r1)]) (bR e1 rfl) (iq (eQ cb rfl rfl))),fun _ (z:none=some _)=>(by cases z),a3,a4,a5⟩
 | false =>
  have:=hb rfl;refine ⟨some r1.toNat,k1,l1,?_,fun j hj=>by cases hj; omega,a3,a4,a5⟩;have e:goD (some r1.toNat)=.int r1:=by show PyData.int ((r1.toNat:Nat):Int)=_; rw [Int.toNat_of_nonneg a1]
  rw [e];exact dF (b:=dA) (en:=[some (penD ns k1 l1),some (.int i),some (.int S),some (.int way),some (.int r1)]) (aE (en1:=[some (penD ns k1 l1),some (.int i),some (.int S),some (.int way),some (.int r1)]) (bR e1 rfl) (aE (jv cb rfl rfl) rfl))
def Er (n:Nat) (hn:n < 1000000):-(2 ^ 62)<=(n:Int)/\(n:Int) < 2 ^ 62:=by
 have:(n:Int) < 1000000:=by omega
 constructor
 ·exact Int.le_trans (by decide +kernel) (Int.natCast_nonneg n)
 ·exact Int.lt_of_lt_of_le this (by decide +kernel)
def Ga {j:Int} (p1:-(2 ^ 62)<=j/\j < 2 ^ 62) {fa:MA} {en en1:En} (h:fa en=some ([.inl (.int j)],en1)):bt fa en=some ((List.range j.toNat).map fun k=>.int (0+(k:Nat)),en1):=by
 unfold bt;rw [h];simp only [Option.bind_some];exact if_pos p1
def pV {n:Nat} {fa:MA} {en en1:En} (h:fa en=some ([.inl (.int n)],en1)) (hn:n < 1000000):bt fa en=some ((List.range n).map fun k=>.int (0+(k:Nat)),en1):=by
 have e:=Ga (Er n hn) h;rw [zaL] at e;exact e
def mEn (mo:Int) (ns:List Int) (k l:Int) (W S:Nat) (way fence:Int) (es:List Bool) (gs:List (List (Option Nat))) (x y:Option D):En :=
 [some (penD ns k l),some (.int W),some (.int mo),some (.int S),some (.int way),some (.int fence),some (.list (es.map .bool)),some (.list (gs.map aC)),x,y]
def ko (fence:Int):Option Nat->Option Nat
 | some j=>if fence<=(j:Int) then none else some j
 | none=>none
def u5 (fence:Int):D->D
 | .int j=>if fence<=j then .none else .int j
 | _=>.none
def Gi {fence:Int} (o:Option Nat):u5 fence (goD o)=goD (ko fence o):=by
 cases o with
 | none=>rfl
 | some j =>
  show (if fence<=(j:Int) then PyData.none else .int j)=goD (if fence<=(j:Int) then none else some j);split <;> rfl
def nh {mo:Int} {ns:List Int} {k l way fence:Int} {W S i:Nat} {es:List Bool} {gs:List (List (Option Nat))} {y:Option D} (hW:W<=12) (hS:S<=60) (h0:0<=k) (h1:k<=9000) (h2:0<=l) :
  ∃ (r:List (Option Nat)) (k' l':Int),eLC false (bt (ad (aa 1) ah)) (gN 0) cY (am bx (az 1 (ad (aa 4) (ad (aa 2) (ad (aa 3) ah))))) [none,some 0,some 3,some 4,some 8] (mEn mo ns k l W S way fence es gs (some (.int i)) y)
   = some (aC r,mEn mo ns k' l' W S way fence es gs (some (.int i)) y)/\iW S W r/\k<=k'/\k'<=k+12/\0<=l':=by
 have hl:((List.range W).map fun k=>PyData.int (0+(k:Nat))).length=W:=by rw [zad,List.length_range]
 obtain ⟨us,ex,e1,⟨o,k',l',rfl,q1,q2,q3⟩,a⟩:=pF (N:=W) (g:=gN 0) (c:=cY) (f:=am bx (az 1 (ad (aa 4) (ad (aa 2) (ad (aa 3) ah)))))
  (fun n en=>∃ o k' l',en=[o,some (penD ns k' l'),some (.int S),some (.int way),some (.int i)]/\k<=k'/\k'<=k+n/\0<=l') (fun _ q=>∃ o,q=goD o/\∀ j,o=some j->j < S)
  (fun n t en hn ⟨o,k',l',he,q1,q2,q3⟩=>by
   subst he;obtain ⟨o',k2,l2,e,p1,p2,p3,p4⟩:=Br (ns:=ns) (k:=k') (l:=l') (way:=way) (i:=i) (S:=S) hS (by omega) (by omega) q3;exact ⟨[some t,some (penD ns k' l'),some (.int S),some (.int way),some (.int i)],[some t,some (penD ns k' l'),some (.int S),some (.int way),some (.int i)],goD o',[some t,some (penD ns k2 l2),some (.int S),some (.int way),some (.int i)],rfl,rfl,jV (as:=[.inr 1,.inl (.int i),.inl (.int S),.inl (.int way)]) rfl rfl e rfl,⟨some t,k2,l2,rfl,by omega,by omega,p4⟩,⟨o',rfl,p1⟩⟩)
  ((List.range W).map fun k=>.int (0+(k:Nat))) [] 0 (bU [none,some 0,some 3,some 4,some 8] (mEn mo ns k l W S way fence es gs (some (.int i)) y)) ⟨none,k,l,rfl,Int.le_refl _,by omega,h2⟩ (by rw [hl]; omega) (by rw [hl]; show 0+W<=_; exact zau (by omega) be)
 obtain ⟨os,rfl,o1,o2⟩:=a.ex;rw [hl] at o1 q2;refine ⟨os,k',l',AF (pV (n:=W) rfl (by omega)) e1 rfl,⟨o1,o2⟩,q1,by omega,q3⟩
def Bo {n:Nat} {j:Int} (h0:0<=j) (h1:j < n):ixN n j=some j.toNat:=by
 unfold ixN;rw [if_pos h0,if_pos h1]
def dX {n i:Nat} (h:i < n):ixN n (i:Int)=some i:=by
 have e:=Bo (n:=n) (j:=(i:Int)) (Int.natCast_nonneg i) (Int.ofNat_lt.mpr h);rw [zaL] at e;exact e
def Cg {mo:Int} {ns:List Int} {k l way fence:Int} {W S i:Nat} {es:List Bool} {gs:List (List (Option Nat))} {r:List (Option Nat)} (hr:iW S W r) (hW:W<=12) :
  eLC true (cE (aa 9)) (gN 0) cY (e2 ixA (aO (ad (aa 0) (ad (eC .none) ah))) (eN gp (ad (eOr (e2 isN (aa 0) (eC .none)) (e2 geI (aa 0) (aa 1))) ah))) [none,some 5] (mEn mo ns k l W S way fence es gs (some (.int i)) (some (aC r)))
   = some (aC (r.map (ko fence)),mEn mo ns k l W S way fence es gs (some (.int i)) (some (aC r))):=by
 obtain ⟨o',e⟩:=pE (F:=u5 fence) (rest:=[some (.int fence)]) (f:=e2 ixA (aO (ad (aa 0) (ad (eC .none) ah))) (eN gp (ad (eOr (e2 isN (aa 0) (eC .none)) (e2 geI (aa 0) (aa 1))) ah))) (r.map goD) [] none (fun t ht=>by
  obtain ⟨o,ho,rfl⟩:=zaz.mp ht;have l2:aO (ad (aa 0) (ad (eC .none) ah)) [some (goD o),some (.int fence)]=some (.list [goD o,.none],[some (goD o),some (.int fence)]):=om rfl rfl (zau (by show 2<=100; decide) be);cases o with
  | none=>exact bf l2 (t2:=.int 1) rfl rfl
  | some j =>
   by_cases hf:fence<=(j:Int)
   ·refine bf l2 (t2:=.int 1) ?_ (show _=some (if fence<=(j:Int) then PyData.none else .int j) by rw [if_pos hf]; rfl);show some (PyData.int (if decide (fence<=(j:Int)) then 1 else 0),_)=_;rw [zaB hf];rfl
   ·refine bf l2 (t2:=.int 0) ?_ (show _=some (if fence<=(j:Int) then PyData.none else .int j) by rw [if_neg hf]; rfl);show some (PyData.int (if decide (fence<=(j:Int)) then 1 else 0),_)=_;rw [zaA hf];rfl) (by rw [zad,hr.1]; exact zau (by show 0+W<=100; omega) be)
 have em:(r.map goD).map (u5 fence)=(r.map (ko fence)).map goD:=by
  rw [zaR,zaR];exact List.map_congr_left fun o _=>Gi o
 rw [em] at e;exact AF (en1:=mEn mo ns k l W S way fence es gs (some (.int i)) (some (aC r))) rfl e rfl
def Gh {S W:Nat} {fence:Int} {r:List (Option Nat)} (hr:iW S W r):iW S W (r.map (ko fence)):=by
 refine ⟨by rw [zad,hr.1],fun o ho j hj=>?_⟩;obtain ⟨o',h1,h2⟩:=zaz.mp ho;cases o' with
 | none=>rw [hj] at h2; cases h2
 | some j' =>
  rw [hj] at h2;have h3:(if fence<=(j':Int) then none else some j')=some j:=h2;split at h3
  ·cases h3
  ·cases h3;exact hr.2 _ h1 _ rfl
def As:MS:=(aj (bh (bG 6 (e2 eqD (am ak (az 0 (ad (eC (.int 3)) ah))) (eC (.int 0)))))
 (aj (aq 9 (eLC false (bt (ad (aa 1) ah)) (gN 0) cY (am bx (az 1 (ad (aa 4) (ad (aa 2) (ad (aa 3) ah))))) [none,some 0,some 3,some 4,some 8]))
 (aj (sIf (cu (tV (e2 eqD (aa 4) (eC (.int 2)))) (tV (e2 ltI (aa 8) (aa 5)))) (aj (bY 6 (aa 8) (eC (.bool false)))
 (aq 9 (eLC true (cE (aa 9)) (gN 0) cY (e2 ixA (aO (ad (aa 0) (ad (eC .none) ah))) (eN gp (ad (eOr (e2 isN (aa 0) (eC .none)) (e2 geI (aa 0) (aa 1))) ah))) [none,some 5]))) aW)
 (bh (bG 7 (aa 9))))))
def Cm {mo:Int} {ns:List Int} {k l way fence:Int} {W S i:Nat} {es:List Bool} {gs:List (List (Option Nat))} {y:Option D} (hW:W<=12) (hS:S<=60) (hi:i < 60) (h0:0<=k) (h1:k<=8000) (h2:0<=l) (he:es.length=i) (hg:gs.length=i) :
  ∃ (b:Bool) (r:List (Option Nat)) (k' l':Int) (y':Option D),As (mEn mo ns k l W S way fence es gs (some (.int i)) y)=some (.nx (mEn mo ns k' l' W S way fence (es++[b]) (gs++[r]) (some (.int i)) y'))/\iW S W r/\k<=k'/\k'<=k+13/\0<=l':=by
 obtain ⟨r1,k1,l1,e1,a1,a2,a3,a4,a5⟩:=ff (ns:=ns) (k:=k) (l:=l) (m:=3) (i:=0) (en:=mEn mo ns k l W S way fence es gs (some (.int i)) y) (fa:=az 0 (ad (eC (.int 3)) ah)) rfl rfl h0 (by omega) h2 (by decide) (by decide);have lm:(es.map PyData.bool).length < sizeLine:=by rw [zad,he]; exact zag (by omega) be
 have s1:bh (bG 6 (e2 eqD (am ak (az 0 (ad (eC (.int 3)) ah))) (eC (.int 0)))) (mEn mo ns k l W S way fence es gs (some (.int i)) y)=some (.nx (mEn mo ns k1 l1 W S way fence (es++[r1 == 0]) gs (some (.int i)) y)):=by
  refine sY (sZ (us:=es.map .bool) (en1:=mEn mo ns k1 l1 W S way fence es gs (some (.int i)) y) rfl (bf (t2:=.int 0) e1 rfl rfl) rfl lm ?_);unfold mEn;rw [zaC];rfl
 obtain ⟨r,k2,l2,e2',hr,b3,b4,b5⟩:=nh (mo:=mo) (ns:=ns) (k:=k1) (l:=l1) (way:=way) (fence:=fence) (W:=W) (S:=S) (i:=i) (es:=es++[r1 == 0]) (gs:=gs) (y:=y) hW hS (by omega) (by omega) a5;have s2:aq 9 (eLC false (bt (ad (aa 1) ah)) (gN 0) cY (am bx (az 1 (ad (aa 4) (ad (aa 2) (ad (aa 3) ah))))) [none,some 0,some 3,some 4,some 8]) (mEn mo ns k1 l1 W S way fence (es++[r1 == 0]) gs (some (.int i)) y)=some (.nx (mEn mo ns k2 l2 W S way fence (es++[r1 == 0]) gs (some (.int i)) (some (aC r)))):=bR e2' rfl;have s4:∀ (es':List Bool) (r':List (Option Nat)),bh (bG 7 (aa 9)) (mEn mo ns k2 l2 W S way fence es' gs (some (.int i)) (some (aC r')))=some (.nx (mEn mo ns k2 l2 W S way fence es' (gs++[r']) (some (.int i)) (some (aC r')))):=by
  intro es' r';refine sY (sZ (us:=gs.map aC) (en1:=mEn mo ns k2 l2 W S way fence es' gs (some (.int i)) (some (aC r'))) rfl rfl rfl (by rw [zad,hg]; exact zag (by omega) be) ?_);unfold mEn;rw [zaC];rfl
 have c1:tV (e2 eqD (aa 4) (eC (.int 2))) (mEn mo ns k2 l2 W S way fence (es++[r1 == 0]) gs (some (.int i)) (some (aC r)))=some (way == 2,mEn mo ns k2 l2 W S way fence (es++[r1 == 0]) gs (some (.int i)) (some (aC r))):=rfl;have c2:tV (e2 ltI (aa 8) (aa 5)) (mEn mo ns k2 l2 W S way fence (es++[r1 == 0]) gs (some (.int i)) (some (aC r)))=some (decide ((i:Int) < fence),mEn mo ns k2 l2 W S way fence (es++[r1 == 0]) gs (some (.int i)) (some (aC r))):=rfl;obtain ⟨b,cb⟩:∃ b,cu (tV (e2 eqD (aa 4) (eC (.int 2)))) (tV (e2 ltI (aa 8) (aa 5))) (mEn mo ns k2 l2 W S way fence (es++[r1 == 0]) gs (some (.int i)) (some (aC r)))=some (b,mEn mo ns k2 l2 W S way fence (es++[r1 == 0]) gs (some (.int i)) (some (aC r))):=by
  cases q1:(way == 2) with
  | true=>exact ⟨_,pW c1 q1 c2⟩
  | false=>exact ⟨_,pX c1 q1⟩
 cases b with
 | false=>exact ⟨r1 == 0,r,k2,l2,_,aE s1 (aE s2 (aE (jv cb rfl rfl) (s4 _ _))),hr,by omega,by omega,b5⟩
 | true =>
  refine ⟨false,r.map (ko fence),k2,l2,some (aC (r.map (ko fence))),aE s1 (aE s2 (aE (en1:=mEn mo ns k2 l2 W S way fence (es++[false]) gs (some (.int i)) (some (aC (r.map (ko fence))))) (eQ cb rfl (aE (en1:=mEn mo ns k2 l2 W S way fence (es++[false]) gs (some (.int i)) (some (aC r))) ?_ (bR (Cg hr hW) rfl))) (s4 _ _))),Gh hr,by omega,by omega,b5⟩;have ix:ixN ((es++[r1 == 0]).map PyData.bool).length (i:Int)=some i:=dX (by rw [zad,zae,he]; exact Nat.lt_succ_self _);have st:((es++[r1 == 0]).map PyData.bool).set i (.bool false)=(es++[false]).map PyData.bool:=by
   have e:(es++[r1 == 0]).set i false=es++[false]:=by
    rw [List.set_append_right _ _ (by omega),he,Nat.sub_self];rfl
   rw [<- e,List.map_set]
  show ((ixN ((es++[r1 == 0]).map PyData.bool).length (i:Int)).map fun k=>Fl.nx ((mEn mo ns k2 l2 W S way fence (es++[r1 == 0]) gs (some (.int i)) (some (aC r))).set 6 (some (.list (((es++[r1 == 0]).map PyData.bool).set k (.bool false))))))=_;rw [ix];show some (Fl.nx ((mEn mo ns k2 l2 W S way fence (es++[r1 == 0]) gs (some (.int i)) (some (aC r))).set 6 (some (.list (((es++[r1 == 0]).map PyData.bool).set i (.bool false))))))=_;rw [st];rfl
def Bf {mo:Int} {ns:List Int} {k l:Int} {W:Nat} (mo1:1<=mo) (mo2:mo<=40) (hW:W<=12) (h0:0<=k) (h1:k<=1000) (h2:0<=l) :
  ∃ (es:List Bool) (gs:List (List (Option Nat))) (k' l':Int),bd [penD ns k l,.int W,.int mo]=some (Hv es gs,[some (penD ns k' l'),none,none])/\1<=es.length/\(es.length:Int)<=mo/\gs.length=es.length/\(∀ r∈gs,iW es.length W r)/\k<=k'/\k'<=k+600/\0<=l':=by
 obtain ⟨r1,k1,l1,e1,a1,a2,a3,a4,a5⟩:=ff (ns:=ns) (k:=k) (l:=l) (m:=mo) (i:=0) (en:=[some (penD ns k l),some (.int W),some (.int mo),none,none,none,none,none,none,none]) (fa:=az 0 (ad (aa 2) ah)) rfl rfl h0 (by omega) h2 (by omega) (by omega);obtain ⟨S,hS⟩:∃ S:Nat,(S:Int)=1+r1:=⟨(1+r1).toNat,by omega⟩;obtain ⟨way,k2,l2,e2',b1,b2,b3,b4,b5⟩:=ff (ns:=ns) (k:=k1) (l:=l1) (m:=4) (i:=0) (en:=[some (penD ns k1 l1),some (.int W),some (.int mo),some (.int S),none,none,none,none,none,none]) (fa:=az 0 (ad (eC (.int 4)) ah)) rfl rfl (by omega) (by omega) a5 (by decide) (by decide);obtain ⟨r3,k3,l3,e3,c1,c2,c3,c4,c5⟩:=ff (ns:=ns) (k:=k2) (l:=l2) (m:=S) (i:=0) (en:=[some (penD ns k2 l2),some (.int W),some (.int mo),some (.int S),some (.int way),none,none,none,none,none]) (fa:=az 0 (ad (aa 3) ah)) rfl rfl (by omega) (by omega) b5 (by omega) (by omega);have hl:((List.range S).map fun k=>PyData.int (0+(k:Nat))).length=S:=by rw [zad,List.length_range]
 obtain ⟨en',e4,es,gs,k',l',x,y,rfl,d1,d2,d3,d4,d5,d6⟩:=uO (g:=gN 8) (b:=As) (ts:=(List.range S).map fun k=>.int (0+(k:Nat)))
  (fun i en=>∃ es gs k' l' x y,en=mEn mo ns k' l' W S way (1+r3) es gs x y/\es.length=i/\gs.length=i/\(∀ r∈gs,iW S W r)/\k3<=k'/\k'<=k3+13 * i/\0<=l')
  (fun i t en ht ⟨es,gs,k',l',x,y,hen,d1,d2,d3,d4,d5,d6⟩=>by
   subst hen;have hi:i < S:=by have:=(zah.mp ht).1; rw [hl] at this; exact this
   have et:t=.int i:=by
    rw [zao,List.getElem?_range hi] at ht;injection ht with ht
    rw [<- ht];show PyData.int (0+(i:Int))=_;rw [Int.zero_add]
   subst et;obtain ⟨b,r,k4,l4,y',f1,f2,f3,f4,f5⟩:=Cm (mo:=mo) (ns:=ns) (k:=k') (l:=l') (way:=way) (fence:=1+r3) (W:=W) (S:=S) (i:=i) (es:=es) (gs:=gs) (y:=y) hW (by omega) (by omega) (by omega) (by omega) d6 d1 d2;refine ⟨mEn mo ns k' l' W S way (1+r3) es gs (some (.int i)) y,_,rfl,.inl f1,es++[b],gs++[r],k4,l4,some (.int i),y',rfl,by rw [zae,d1]; rfl,by rw [zae,d2]; rfl,fun q hq=>?_,by omega,by omega,f5⟩;rcases zax.mp hq with hq | hq
   ·exact d3 q hq
   ·rw [zaH.mp hq];exact f2)
  (en:=mEn mo ns k3 l3 W S way (1+r3) [] [] none none) ⟨[],[],k3,l3,none,none,rfl,rfl,rfl,fun _ z=>(by cases z),Int.le_refl _,by omega,c5⟩
 rw [hl] at d1 d2 d5;refine ⟨es,gs,k',l',?_,by omega,by omega,by omega,by rw [d1]; exact d3,by omega,by omega,d6⟩;have l0:∀ {en:En},aO ah en=some (.list [],en):=fun {en}=>om rfl rfl (Nat.zero_le _);refine dF (b:=cy) (en:=mEn mo ns k' l' W S way (1+r3) es gs x y)
  (aE (en1:=[some (penD ns k1 l1),some (.int W),some (.int mo),some (.int S),none,none,none,none,none,none]) (bR (bf rfl e1 (show _=some (PyData.int S) by rw [hS]; rfl)) rfl)
  (aE (en1:=[some (penD ns k2 l2),some (.int W),some (.int mo),some (.int S),some (.int way),none,none,none,none,none]) (bR e2' rfl)
  (aE (en1:=[some (penD ns k3 l3),some (.int W),some (.int mo),some (.int S),some (.int way),some (.int (1+r3)),none,none,none,none]) (bR (bf rfl e3 rfl) rfl)
  (aE (en1:=[some (penD ns k3 l3),some (.int W),some (.int mo),some (.int S),some (.int way),some (.int (1+r3)),some (.list []),none,none,none]) (bR l0 rfl)
  (aE (en1:=[some (penD ns k3 l3),some (.int W),some (.int mo),some (.int S),some (.int way),some (.int (1+r3)),some (.list []),some (.list []),none,none]) (bR l0 rfl)
  (aE (Gb (pV (n:=S) rfl (by omega)) e4) (kX (F9 rfl rfl (zau (by show 2<=100; decide) be)))))))))
def Hu (v:List Int):D->Option Int
 | .int j=>some (v.getD j.toNat 0)
 | _=>none
def rsD (v:List Int):D->Int
 | .list xs=>(xs.filterMap (Hu v)).sum
 | _=>0
def nxt (gs:List (List (Option Nat))) (v:List Int):List Int:=gs.map fun r=>rsD v (aC r)
def base (es:List Bool):List Int:=es.map fun b=>if b then 1 else 0
def it (gs:List (List (Option Nat))) (v:List Int):Nat->List Int
 | 0=>v
 | n+1=>nxt gs (it gs v n)
section
variable {S W:Nat} {es:List Bool} {gs:List (List (Option Nat))}
end
end Mch
set_option maxHeartbeats 1000000
namespace W32
open PySem L2 Mch
abbrev Gr:=List (List (Option Nat))
structure Ent where
 k:Nat
 p:Option (Nat × Nat)
 r:List Nat
abbrev keys (T:List Ent):List Nat:=T.map (·.k)
def stp (e:Ent) (T:List Ent) (i:Nat):Option Nat->List Ent
 | none=>T
 | some k=>if k∈keys T then T else T++[⟨k,some (e.k,i),e.r++[i]⟩]
def fol (e:Ent):List Ent->Nat->List (Option Nat)->List Ent
 | T,_,[]=>T
 | T,i,w :: r=>fol e (stp e T i w) (i+1) r
def ki (e:Ent):∀ (l:List (Option Nat)) (T:List Ent) (j:Nat) (w:Option Nat),fol e T j (l++[w])=stp e (fol e T j l) (j+l.length) w
 | [],T,j,w=>rfl
 | x :: l,T,j,w=>by
  show fol e (stp e T j x) (j+1) (l++[w])=stp e (fol e (stp e T j x) (j+1) l) _ w;rw [ki e l];congr 1;show j+1+l.length=j+(l.length+1);omega
def dQ (G:Gr) (T:List Ent) (n:Nat):List Ent:=match T[n]? with
 | some e=>fol e T 0 ((G[e.k]?).getD [])
 | none=>T
def TT (G:Gr):Nat->List Ent
 | 0=>[⟨0,none,[]⟩]
 | n+1=>dQ G (TT G n) n
structure TOk (N:Nat) (T:List Ent):Prop where
 nd:(keys T).Nodup
 lt:∀ e∈T,e.k < N
 h0:T[0]?=some ⟨0,none,[]⟩
 par:∀ (i:Nat) (e:Ent),T[i]?=some e->(e.p=none/\e.r=[])\/∃ (j:Nat) (f:Ent) (s:Nat),j < i/\T[j]?=some f/\e.p=some (f.k,s)/\e.r=f.r++[s]
 rl:∀ (i:Nat) (e:Ent),T[i]?=some e->e.r.length<=i
def o8:∀ {cs A:List Nat},cs.Nodup->(∀ c∈cs,c∈A)->cs.length<=A.length
 | [],_,_,_=>Nat.zero_le _
 | c :: cs,A,nd,h=>by
  have hc:=h c zaq;obtain ⟨n1,n2⟩:=zbc.mp nd;have ih:=o8 (A:=A.erase c) n2 fun x hx=>(List.mem_erase_of_ne (fun z:x=c=>n1 (by rw [<- z]; exact hx))).mpr (h x (zaj _ hx));rw [List.length_erase_of_mem hc] at ih
  have:=List.length_pos_of_mem hc;rw [zac];omega
def TOk.len {N:Nat} {T:List Ent} (t:TOk N T):T.length<=N:=by
 have:=o8 (A:=List.range N) t.nd fun c hc=>by
  obtain ⟨e,he,rfl⟩:=zaz.mp hc;exact List.mem_range.mpr (t.lt e he)
 rwa [List.length_range,zad] at this
def El {N:Nat} {T:List Ent} {j i:Nat} {e:Ent} (t:TOk N T) (he:T[j]?=some e) {w:Option Nat} (hw:∀ k,w=some k->k < N):TOk N (stp e T i w):=by
 cases w with
 | none=>exact t
 | some k =>
  show TOk N (if k∈keys T then T else T++[⟨k,some (e.k,i),e.r++[i]⟩]);by_cases hk:k∈keys T
  ·rw [if_pos hk]; exact t
  ·rw [if_neg hk];have hj:=(zah.mp he).1;refine ⟨?_,fun f hf=>?_,?_,fun m f hm=>?_,fun m f hm=>?_⟩
   ·show (List.map _ (T++_)).Nodup;rw [zaC,List.nodup_append];exact ⟨t.nd,by simp,fun a ha b hb z=>hk (by
     have hb':b=k:=zaH.mp hb;rw [<- hb',<- z];exact ha)⟩
   ·rcases zax.mp hf with hf | hf
    ·exact t.lt f hf
    ·rw [zaH.mp hf]; exact hw k rfl
   ·rw [zaS (by omega)]; exact t.h0
   ·by_cases hm':m < T.length
    ·rw [zaS hm'] at hm;rcases t.par m f hm with h | ⟨j',g,s,h1,h2,h3⟩
     ·exact .inl h
     ·exact .inr ⟨j',g,s,h1,by rw [zaS (by omega)]; exact h2,h3⟩
    ·rw [List.getElem?_append_right (by omega)] at hm;have em:m - T.length=0:=by
      have:=(zah.mp hm).1;simp at this;omega
     rw [em] at hm;cases hm;exact .inr ⟨j,e,i,by omega,by rw [zaS hj]; exact he,rfl,rfl⟩
   ·by_cases hm':m < T.length
    ·rw [zaS hm'] at hm;exact t.rl m f hm
    ·rw [List.getElem?_append_right (by omega)] at hm;have em:m - T.length=0:=by
      have:=(zah.mp hm).1;simp at this;omega
     rw [em] at hm;cases hm
     have:=t.rl j e he;show (e.r++[i]).length<=m;rw [zae];show e.r.length+1<=m;omega
def AK {e f:Ent} {T:List Ent} {i j:Nat} {w:Option Nat} (h:T[j]?=some f):(stp e T i w)[j]?=some f:=by
 cases w with
 | none=>exact h
 | some k =>
  show (if k∈keys T then T else T++[(⟨k,some (e.k,i),e.r++[i]⟩:Ent)])[j]?=some f;split
  ·exact h
  ·rw [zaS (zah.mp h).1]; exact h
def io {N:Nat} {e:Ent} {j:Nat}:∀ (r:List (Option Nat)) {T:List Ent} {i:Nat},TOk N T->T[j]?=some e->(∀ k,some k∈r->k < N)->TOk N (fol e T i r)/\(fol e T i r)[j]?=some e
 | [],T,i,t,he,_=>⟨t,he⟩
 | w :: r,T,i,t,he,hw=>io r (El t he fun k z=>hw k (by rw [z]; exact zaq)) (AK he) fun k z=>hw k (zaj _ z)
structure GOk (G:Gr):Prop where
 n1:1<=G.length
 n:G.length<=1000
 w:∀ r∈G,r.length<=12
 lt:∀ r∈G,∀ k,some k∈r->k < G.length
def eX {G:Gr} (g:GOk G):∀ n,TOk G.length (TT G n)
 | 0=>by
  have:=g.n1;refine ⟨by simp [TT,keys],fun e he=>?_,rfl,fun i e he=>?_,fun i e he=>?_⟩
  ·rw [show TT G 0=[⟨0,none,[]⟩] from rfl] at he;rw [zaH.mp he];show 0 < _;omega
  ·cases i with
   | zero=>cases he; exact .inl ⟨rfl,rfl⟩
   | succ i=>simp [TT] at he
  ·cases i with
   | zero=>cases he; exact Nat.zero_le _
   | succ i=>simp [TT] at he
 | n+1=>by
  have ih:=eX g n;show TOk _ (dQ G (TT G n) n);unfold dQ;cases h:(TT G n)[n]? with
  | none=>exact ih
  | some e =>
   have hk:=ih.lt e (zaX h);refine (io _ ih h fun k hk'=>?_).1;rw [zak hk] at hk';exact g.lt _ (zaK hk) k hk'
def qa {G:Gr} {n:Nat} (h:(TT G n).length<=n):∀ m,TT G (n+m)=TT G n
 | 0=>rfl
 | m+1=>by
  show dQ G (TT G (n+m)) (n+m)=_;rw [qa h m];unfold dQ;rw [List.getElem?_eq_none (by omega)]
def tK {G:Gr} (g:GOk G) {n:Nat} (h:(TT G n).length<=n) (h2:n<=(TT G n).length):TT G n=TT G G.length:=by
 have:=(eX g n).len;rw [<- qa h (G.length - n)];congr 1;omega
def iD (k:Nat):D:=.int (k:Int)
def nD (l:List Nat):D:=.list (l.map iD)
def dC:Option (Nat × Nat)->D
 | none=>.none
 | some (h,s)=>.tuple [iD h,iD s]
def kvf (f:Ent->D) (e:Ent):D × D:=(iD e.k,f e)
def jA (f:Ent->D) (T:List Ent):D:=.dict (T.map (kvf f))
def qL (a b:Nat):kEq (iD a) (iD b)=decide (a=b):=by
 show ((a:Int) == (b:Int))=_;rw [Bool.eq_iff_iff,beq_iff_eq,decide_eq_true_iff];omega
def EN (f:Ent->D) (T:List Ent):noT (T.map (kvf f))=true:=by
 cases T <;> rfl
def pS (f:Ent->D) (T:List Ent) (k:Nat):((T.map (kvf f)).find? fun q=>kEq q.1 (iD k)).isSome=decide (k∈keys T):=by
 induction T with
 | nil=>rfl
 | cons a T ih =>
  rw [zar,List.find?_cons];show (match kEq (iD a.k) (iD k) with | true=>some (kvf f a) | false=>_).isSome=decide (k∈a.k :: keys T);rw [qL];by_cases h:a.k=k
  ·subst h; simp
  ·simp only [h,decide_false];rw [ih];simp [Ne.symm h]
def r6 (f:Ent->D) (T:List Ent) (k:Nat):fG (iD k) (jA f T)=some (.bool (!decide (k∈keys T))):=by
 show (if noT (T.map (kvf f))=true then some (PyData.bool (!(aR (T.map (kvf f)) (iD k)).isSome)) else none)=_;rw [if_pos (EN f T)];unfold aR;rw [Option.isSome_map,pS]
def Gm (f:Ent->D) (T:List Ent) (k:Nat):((T.map (kvf f)).any fun q=>kEq q.1 (iD k))=decide (k∈keys T):=by
 rw [<- pS f]
 induction T with
 | nil=>rfl
 | cons a T ih =>
  rw [zar,List.any_cons,List.find?_cons,ih];cases kEq (kvf f a).1 (iD k) <;> simp
def ni {f:Ent->D} {T:List Ent} {k:Nat} (h:k ∉ keys T) (v:D):fO (T.map (kvf f)) (iD k) v=T.map (kvf f)++[(iD k,v)]:=by
 unfold fO;rw [if_neg (by rw [Gm]; simpa using h)]
def df {f:Ent->D}:∀ {T:List Ent} {i:Nat} {e:Ent},(keys T).Nodup->T[i]?=some e->aR (T.map (kvf f)) (iD e.k)=some (f e)
 | [],i,e,_,h=>by simp at h
 | a :: T,0,e,_,h=>by
  cases h;unfold aR;rw [zar,List.find?_cons];show Option.map _ (match kEq (iD a.k) (iD a.k) with | true=>some (kvf f a) | false=>_)=_;rw [qL,zaB rfl];rfl
 | a :: T,i+1,e,nd,h=>by
  have h':T[i]?=some e:=by simpa using h
  have nd':=zbc.mp (show (a.k :: keys T).Nodup from nd);have ne:a.k≠e.k:=fun z=>nd'.1 (by rw [z]; exact List.mem_map_of_mem (zaX h'));have ih:=df (f:=f) nd'.2 h';unfold aR at ih ⊢;rw [zar,List.find?_cons];show Option.map _ (match kEq (iD a.k) (iD e.k) with | true=>some (kvf f a) | false=>_)=_;rw [qL,zaA ne];exact ih
def szB {n:Nat} (h:n<=100000):n<=sizeLine:=zau h (by decide)
def cI {n:Nat} (h:n < 100000):n < sizeLine:=zag h (by decide)
def eR (T:List Ent):D:=jA (fun e=>dC e.p) T
def ahD (T:List Ent):D:=nD (keys T)
def nJ (T:List Ent) (e:Ent):nD (keys (T++[e]))=.list ((keys T).map iD++[iD e.k]):=by
 show PyData.list _=_;rw [show keys (T++[e])=keys T++[e.k] from zaC,zaC];rfl
end W32
namespace L2
open PySem PySem.Spec PyProof.Rows
def lb {i:Nat} {fk fe:ME} {en:En} {Q:Fl->Prop} (h:W (fe en) (fun r=>(∃ u,(r.2[i]?).join=some u)/\W (fk r.2) (fun q=>∃ ks,(q.2[i]?).join=some (.dict ks)/\(kOf q.1).isSome=true/\ks.length < sizeLine/\Q (.nx (q.2.set i (some (.dict (fO ks q.1 r.1)))))))):W (bE i fk fe en) Q:=by
 unfold bE;rw [au];refine W.use h fun r ⟨⟨u,hu⟩,h2⟩=>?_;rw [hu];show W ((fk r.2).bind _) Q;rw [au];refine W.use h2 fun q ⟨ks,h3,h4,h5,h6⟩=>?_;rw [h3];show W ((kOf q.1).bind _) Q;obtain ⟨k,hk⟩:=Option.isSome_iff_exists.mp h4;rw [hk];show W (if ks.length < sizeLine then _ else none) Q;rw [if_pos h5];exact ⟨_,rfl,h6⟩
def fI {i:Nat} {mp:MP} {f:ME} {en:En} {Q:D × En->Prop} (h:W (mp en) (fun r=>∃ t ts,(r.2[i]?).join=some t/\bA t r.1=some (.list ts)/\W (f r.2) (fun q=>ts.length < sizeLine/\Q (.none,q.2.set i (some (bg t r.1 (.list (ts++[q.1])))))))):W (b8 i mp f en) Q:=by
 unfold b8;rw [au];refine W.use h fun r ⟨t,ts,h1,h2,h3⟩=>?_;rw [h1];show W ((bA t r.1).bind _) Q;rw [h2];show W ((f r.2).bind _) Q;rw [au];refine W.use h3 fun q ⟨h4,h5⟩=>?_;rw [if_pos h4];exact ⟨_,rfl,h5⟩
def eW {i:Nat} {mp:MP} {f:ME} {en:En} {Q:List Nat × En->Prop} (h:W (mp en) (fun r=>W (f r.2) (fun q=>∃ n t ts k,q.1=.int n/\(q.2[i]?).join=some t/\(bA t r.1=some (.list ts)\/bA t r.1=some (.tuple ts))/\ixN ts.length n=some k/\k < ts.length/\Q (r.1++[k],q.2)))):W (pIx i mp f en) Q:=by
 unfold pIx;rw [au];refine W.use h fun r h2=>?_;rw [au];refine W.use h2 fun q ⟨n,t,ts,k,h3,h4,h5,h6,h7,h8⟩=>?_;rw [h3,h4];show W ((bA t r.1).bind _) Q;rcases h5 with h5 | h5 <;> rw [h5] <;> show W ((ixN ts.length n).bind _) Q <;> rw [h6] <;> show W (if k < ts.length then _ else none) Q <;> rw [if_pos h7] <;> exact ⟨_,rfl,h8⟩
def eV {i:Nat} {en:En} {t:D} {Q:List Nat × En->Prop} (h:(en[i]?).join=some t) (hq:Q ([],en)):W (cJ i en) Q:=by
 unfold cJ;rw [h];exact ⟨_,rfl,hq⟩
def Go {i:Nat} {mp:MP} {fk fe:ME} {en:En} {Q:Fl->Prop} (h:W (fe en) (fun r=>W (mp r.2) (fun w=>W (fk w.2) (fun q=>∃ n t ts k,q.1=.int n/\(q.2[i]?).join=some t/\bA t w.1=some (.list ts)/\ixN ts.length n=some k/\Q (.nx (q.2.set i (some (bg t w.1 (.list (ts.set k r.1)))))))))):W (iz i mp fk fe en) Q:=by
 unfold iz;rw [au];refine W.use h fun r h1=>?_;rw [au];refine W.use h1 fun w h2=>?_;rw [au];refine W.use h2 fun q ⟨n,t,ts,k,e1,e2,e3,e4,hq⟩=>?_;rw [e1,e2];show W ((bA t w.1).bind _) Q;rw [e3];show W ((ixN ts.length n).map _) Q;rw [e4];exact ⟨_,rfl,hq⟩
def Hn {kp:Bool} {i:Nat} {en:En} {ks:List (D × D)} {Q:List D × En->Prop} (h:(en[i]?).join=some (.dict ks)) (hq:Q (kys ks,if kp then en else en.set i none)):W (iDk kp i en) Q:=by
 unfold iDk;rw [h];exact ⟨_,rfl,hq⟩
def Hm {kp:Bool} {i:Nat} {en:En} {ks:List (D × D)} {Q:List D × En->Prop} (h:(en[i]?).join=some (.dict ks)) (hq:Q (prs ks,if kp then en else en.set i none)):W (iDm kp i en) Q:=by
 unfold iDm;rw [h];exact ⟨_,rfl,hq⟩
def HM {f:ME} {en:En} {Q:D × En->Prop} (h:W (f en) (fun r=>fm r.1=true/\Q r)):W (eUp f en) Q:=by
 unfold eUp;rw [au];refine W.use h fun r ⟨h1,h2⟩=>?_;rw [if_pos h1];exact ⟨_,rfl,h2⟩
def tH {fa:MA} {en en1:En} {ts us:List D} {Q:List D × En->Prop} (h:W (fa en) (fun r=>(r=([.inl (.list ts),.inl (.list us)],en1)\/r=([.inl (.tuple ts),.inl (.tuple us)],en1))/\Q (cH ts us,en1))):W (kP fa en) Q:=by
 unfold kP;rw [au];refine W.use h ?_;rintro _ ⟨rfl | rfl,hq⟩ <;> exact ⟨_,rfl,hq⟩
def Gn {sx:Str} {i j:Nat} {fk:ME} {en:En} {r ls:List D} {Q:D × En->Prop} (h1:(en[i]?).join=some (.list r)) (h2:(en[j]?).join=some (.list ls)) (h:W (fk en) (fun q=>∃ n,q.1=.int n/\(r.all scaD && ls.all fm)=true/\Q (.tuple [.str sx,.list r,.list (fP ls none (some n))],(en.set i none).set j none))):W (jW sx i j fk en) Q:=by
 unfold jW;rw [h1,h2];show W ((fk en).bind _) Q;rw [au];refine W.use h fun q ⟨n,e1,e2,e3⟩=>?_;rw [e1];show W (if _ then _ else none) Q;rw [if_pos e2];exact ⟨_,rfl,e3⟩
end L2
namespace W32
open PySem L2 Mch
def pz (T:List Ent) (k:Nat):fG (.int (k:Int)) (eR T)=some (.bool (!decide (k∈keys T))):=r6 _ _ _
def Cl (T:List Ent) (k h s:Nat) (r:List Nat):eR (T++[⟨k,some (h,s),r⟩])=.dict (T.map (kvf fun e=>dC e.p)++[(iD k,.tuple [iD h,iD s])]):=by
 show PyData.dict _=_;rw [zaC];rfl
def qV {N:Nat} {T:List Ent} {n:Nat} {e:Ent} {r:List (Option Nat)} (t:TOk N T) (hN:N<=1000) (he:T[n]?=some e) (hr:∀ k,some k∈r->k < N) {x0 x1 x4 o6 o7:Option D} {P:Fl->Prop}
  (hP:∀ o6 o7,P (.nx [x0,x1,some (eR (fol e T 0 r)),some (ahD (fol e T 0 r)),x4,some (.int (e.k:Int)),o6,o7])) :
  W (bW (gT (gsC (gN 6) (gsC (gN 7) gs0))) cW (cG (r.map goD)) [x0,x1,some (eR T),some (ahD T),x4,some (.int (e.k:Int)),o6,o7]) P:=by
 refine jX (fun i en=>∃ o6 o7,en=[x0,x1,some (eR (fol e T 0 (r.take i))),some (ahD (fol e T 0 (r.take i))),x4,some (.int (e.k:Int)),o6,o7]) ⟨o6,o7,rfl⟩ ?_ ?_
 ·rintro i t' en ht ⟨p6,p7,rfl⟩;obtain ⟨u,hu,rfl⟩:=gQ ht;rw [zao] at hu;obtain ⟨w,hw,rfl⟩:=zab.mp hu;have hi:=(zah.mp hw).1;have et:r.take (i+1)=r.take i++[w]:=by rw [List.take_succ,hw]; rfl
  have ef:fol e T 0 (r.take (i+1))=stp e (fol e T 0 (r.take i)) i w:=by
   rw [et,ki,zaE,Nat.min_eq_left (by omega),za4]
  rw [ef];obtain ⟨tk,_⟩:=io (r.take i) (i:=0) t he fun k z=>hr k (List.mem_of_mem_take z);generalize fol e T 0 (r.take i)=Ti at tk;have ln:=tk.len;cases w with
  | none =>
   simp only [ws,cW,goD];exact ⟨_,_,rfl⟩
  | some k =>
   by_cases hk:k∈keys Ti
   ·simp only [ws,cW,goD,pz,hk];exact ⟨_,_,by rw [show stp e Ti i (some k)=if k∈keys Ti then Ti else _ from rfl,if_pos hk]⟩
   ·simp only [ws,cW,goD,pz,hk];refine lb ?_;simp only [ws];refine ⟨⟨_,rfl⟩,_,rfl,rfl,cI (by rw [zad]; omega),?_⟩;have ed:fO (Ti.map (kvf fun e=>dC e.p)) (.int (k:Int)) (.tuple [.int (e.k:Int),.int (i:Int)])=Ti.map (kvf fun e=>dC e.p)++[(iD k,.tuple [iD e.k,iD i])]:=ni hk _;simp only [ws,ed,ahD,nD];have es:stp e Ti i (some k)=Ti++[⟨k,some (e.k,i),e.r++[i]⟩]:=if_neg hk;have e3:=Cl Ti k e.k i (e.r++[i]);have e4:PyData.list ((keys (Ti++[⟨k,some (e.k,i),e.r++[i]⟩])).map iD)=.list ((keys Ti).map iD++[.int (k:Int)]):=nJ Ti _;refine ⟨cI (by omega),some (.int (i:Int)),some (.int (k:Int)),?_⟩;rw [es,e3,e4]
 ·rintro en ⟨p6,p7,rfl⟩;rw [gP,zad,zaQ];exact hP _ _
def pZ {G:Gr} (g:GOk G):W (bV [.list (G.map aC),.int 0]) (fun r=>r=(eR (TT G G.length),[none,none])):=by
 have gn:=g.n;simp only [bV,i9,ws];refine W.of (show fq [(eS3 (aa 1),eC .none)] [some (.list (G.map aC)),some (.int 0),none,none,none,none,none,none]=some (eR (TT G 0),[some (.list (G.map aC)),some (.int 0),none,none,none,none,none,none]) from rfl) ?_;simp only [ws];refine mi (fun m en=>∃ n o5 o6 o7,en=[some (.list (G.map aC)),some (.int 0),some (eR (TT G n)),some (ahD (TT G n)),some (.int (n:Int)),o5,o6,o7]/\n<=(TT G n).length/\m=G.length - n) ?_ ⟨0,_,_,_,rfl,Nat.zero_le _,rfl⟩;rintro m en ⟨n,o5,o6,o7,rfl,h1,rfl⟩;have t:=eX g n;have ln:=t.len;by_cases hn:n < (TT G n).length
 ·obtain ⟨e,he⟩:∃ e,(TT G n)[n]?=some e:=⟨_,zak hn⟩;have hk:=t.lt e (zaX he);obtain ⟨r,hr⟩:∃ r,G[e.k]?=some r:=⟨_,zak hk⟩;have d1:decide ((n:Int) < ((TT G n).length:Nat))=true:=by
   rw [decide_eq_true_iff];omega
  have e1:atI ((keys (TT G n)).map iD) (n:Int)=some (.int (e.k:Int)):=by
   rw [aV,zao,zao,he];rfl
  have e2:atI (G.map aC) (e.k:Int)=some (.list (r.map goD)):=by rw [aV,zao,hr]; rfl
  simp only [ws,gz,jJ,ahD,nD,d1,e1,e2];have ci:=qV (x0:=some (.list (G.map aC))) (x1:=some (.int 0)) (x4:=some (.int (n:Int))) (o6:=o6) (o7:=o7) t gn he (g.lt r (zaX hr)) (P:=fun f=>∃ o6 o7,f=.nx [some (.list (G.map aC)),some (.int 0),some (eR (TT G (n+1))),some (ahD (TT G (n+1))),some (.int (n:Int)),some (.int (e.k:Int)),o6,o7]) fun p6 p7=>⟨p6,p7,by
   have:TT G (n+1)=fol e (TT G n) 0 r:=by
    show dQ G (TT G n) n=_;unfold dQ;rw [he];show fol e _ 0 ((G[e.k]?).getD [])=_;rw [hr];rfl
   rw [this]⟩
  refine W.use ci ?_;rintro _ ⟨p6,p7,rfl⟩;simp only [ws];have t':=(eX g (n+1)).len;have up:n+1<=(TT G (n+1)).length:=by
   have:TT G (n+1)=fol e (TT G n) 0 r:=by
    show dQ G (TT G n) n=_;unfold dQ;rw [he];show fol e _ 0 ((G[e.k]?).getD [])=_;rw [hr];rfl
   rw [this]
   have:=(zah.mp (io r (i:=0) t he (g.lt r (zaX hr))).2).1;omega
  exact ⟨G.length - (n+1),by omega,n+1,_,_,_,rfl,up,rfl⟩
 ·have d1:decide ((n:Int) < ((TT G n).length:Nat))=false:=by
   rw [decide_eq_false_iff_not];omega
  simp only [ws,gz,ahD,nD,d1];rw [tK g (by omega) h1]
def pN {T:List Ent} {i:Nat} {e:Ent} (nd:(keys T).Nodup) (h:T[i]?=some e):l9 (eR T) (.int (e.k:Int))=some (dC e.p):=df (f:=fun e=>dC e.p) nd h
def nh {N:Nat} {T:List Ent} (t:TOk N T) (hN:N<=1000) {i:Nat} {e:Ent} (he:T[i]?=some e):W (gg [eR T,.int (e.k:Int)]) (fun r=>r=(nD e.r,[none,none])):=by
 have tl:=t.len;have il:=(zah.mp he).1;have el:=t.rl i e he;simp only [gg,mq,ws,pN t.nd he];refine mi (fun m en=>∃ j f rs,en=[some (eR T),some (.int (e.k:Int)),some (.list (rs.map iD)),some (dC f.p)]/\T[j]?=some f/\e.r=f.r++rs.reverse/\m=j) ?_ ⟨i,e,[],rfl,he,by simp,rfl⟩;rintro m en ⟨j,f,rs,rfl,h1,h2,rfl⟩;have lr:f.r.length+rs.length=e.r.length:=by rw [h2,zae,List.length_reverse]
 rcases t.par m f h1 with ⟨p1,p2⟩ | ⟨j,f',s,p1,p2,p3,p4⟩
 ·rw [p1];have er:mV [.list (rs.map iD)]=some (nD e.r):=by
   show some (PyData.list (rs.map iD).reverse)=_;rw [<- List.map_reverse,h2,p2,List.nil_append];rfl
  simp only [ws,jE,dC,er]
 ·rw [p3];simp only [ws,jE,mN,dC,iD,pN t.nd p2];refine ⟨cI (by omega),j,p1,j,f',rs++[s],?_,p2,?_,rfl⟩
  ·rw [zaC];rfl
  ·rw [h2,p4,List.reverse_append,List.append_assoc];rfl
def isE (es:List Bool) (e:Ent):Bool:=es.getD e.k false
def AI {es:List Bool} {e:Ent} (h:e.k < es.length):atI (es.map PyData.bool) (e.k:Int)=some (.bool (isE es e)):=by
 unfold isE;rw [aV,zao,zak h,List.getD_eq_getElem?_getD,zak h];rfl
def frD (es:List Bool) (T:List Ent):D:=match T.find? (isE es) with
 | some e=>nD e.r
 | none=>.none
def Bj (T:List Ent):kys (T.map (kvf fun e=>dC e.p))=T.map fun e=>iD e.k:=by
 unfold kys;rw [zaR];rfl
def uP {es:List Bool} {G:Gr} (g:GOk G) (hes:es.length=G.length):W (dz [.tuple [.list (es.map .bool),.list (G.map aC)],.int 0]) (fun r=>r=(frD es (TT G G.length),[none,none])):=by
 have gn:=g.n;have t:=eX g G.length;simp only [dz,i8,ws];refine W.use (pZ g) ?_;rintro _ rfl;simp only [ws];generalize TT G G.length=T at t;refine Hn (ks:=T.map (kvf fun e=>dC e.p)) rfl ?_;rw [Bj];simp only [ws,if_true];refine jX (fun i en=>∃ o,en=[some (.tuple [.list (es.map .bool),.list (G.map aC)]),some (.int 0),some (eR T),o]/\∀ e∈T.take i,isE es e=false) ⟨none,rfl,fun e z=>by simp at z⟩ ?_ ?_
 ·rintro i t' en ht ⟨o,rfl,h1⟩;rw [zao] at ht;obtain ⟨e,he,rfl⟩:=zab.mp ht;have et:T.take (i+1)=T.take i++[e]:=by rw [List.take_succ,he]; rfl
  have hk:=t.lt e (zaX he);have ae:=AI (es:=es) (e:=e) (by omega);cases hb:isE es e with
  | true =>
   rw [hb] at ae;simp only [ws,gB,iD,ae];refine W.use (nh t gn he) ?_;rintro _ rfl;simp only [ws]
   have:frD es T=nD e.r:=by
    unfold frD
    have:T.find? (isE es)=some e:=by
     rw [List.find?_eq_some_iff_getElem];obtain ⟨q1,q2⟩:=zah.mp he;refine ⟨hb,i,q1,q2,fun j hj=>?_⟩;rw [h1 (T[j]'(by omega)) (by rw [List.mem_take_iff_getElem]; exact ⟨j,by omega,rfl⟩)];rfl
    rw [this]
   rw [this]
  | false =>
   rw [hb] at ae;simp only [ws,gB,iD,ae];refine ⟨_,rfl,fun f hf=>?_⟩;rw [et] at hf;rcases zax.mp hf with hf | hf
   ·exact h1 f hf
   ·rw [zaH.mp hf]; exact hb
 ·rintro en ⟨o,rfl,h1⟩;rw [zad,zaQ] at h1
  have:frD es T=.none:=by
   unfold frD
   have:T.find? (isE es)=none:=by
    rw [List.find?_eq_none];intro e he;rw [h1 e he];simp
   rw [this]
  simp only [ws,this]
def lay (T:List Ent) (l:Nat):List Nat:=(T.filter fun e=>decide (e.r.length=l)).map (·.k)
def hgt:List Ent->Nat
 | []=>0
 | e :: T=>max (e.r.length+1) (hgt T)
def pK:∀ (T:List Ent) (e:Ent),hgt (T++[e])=max (hgt T) (e.r.length+1)
 | [],e=>by show max (e.r.length+1) 0=max 0 (e.r.length+1); omega
 | a :: T,e=>by
  show max (a.r.length+1) (hgt (T++[e]))=max (max (a.r.length+1) (hgt T)) _;rw [pK T e];omega
def dh:∀ {T:List Ent} {e:Ent},e∈T->e.r.length+1<=hgt T
 | a :: T,e,h=>by
  show _<=max (a.r.length+1) (hgt T);rcases zay.mp h with rfl | h
  ·omega
  ·have:=dh h;omega
def jp:∀ {T:List Ent} {N:Nat},(∀ e∈T,e.r.length+1<=N)->hgt T<=N
 | [],N,_=>Nat.zero_le _
 | a :: T,N,h=>by
  show max (a.r.length+1) (hgt T)<=N;have h1:=h a zaq;have h2:=jp fun e he=>h e (zaj _ he);omega
def Bi (T:List Ent) (e:Ent) (l:Nat):lay (T++[e]) l=if e.r.length=l then lay T l++[e.k] else lay T l:=by
 unfold lay;rw [List.filter_append,zaC];by_cases h:e.r.length=l
 ·rw [if_pos h,List.filter_cons_of_pos (by simpa using h)];rfl
 ·rw [if_neg h,List.filter_cons_of_neg (by simpa using h)];simp
def bz (T:List Ent) (n:Nat):List D:=(List.range n).map fun l=>nD (lay T l)
def cK (T:List Ent) (n:Nat):(bz T n).length=n:=by unfold bz; rw [zad,List.length_range]
def iI {T:List Ent} {n l:Nat} (h:l < n):(bz T n)[l]?=some (nD (lay T l)):=by
 unfold bz;rw [zao,List.getElem?_range h];rfl
def uv {T:List Ent} {e:Ent} {n:Nat} (h:e.r.length < n):(bz T n).set e.r.length (.list ((lay T e.r.length).map iD++[iD e.k]))=bz (T++[e]) n:=by
 refine List.ext_getElem? fun l=>?_;by_cases hl:l < n
 ·rw [iI hl,Bi];by_cases q:e.r.length=l
  ·subst q;rw [zaP (by rw [cK]; exact h),if_pos rfl];show _=some (PyData.list _);rw [zaC];rfl
  ·rw [zaO q,if_neg q,iI hl]
 ·rw [List.getElem?_eq_none (by rw [zaV,cK]; omega),List.getElem?_eq_none (by rw [cK]; omega)]
def se {T:List Ent} {n:Nat} (h:∀ e∈T,e.r.length≠n):bz T n++[.list []]=bz T (n+1):=by
 unfold bz;rw [List.range_succ,zaC]
 have:lay T n=[]:=by
  unfold lay;rw [List.filter_eq_nil_iff.mpr fun e he=>by simpa using h e he];rfl
 rw [List.map_singleton,this];rfl
def dg3 {ks:List (D × D)} {z:Int} {t:D} {en:En} {Q:D × En->Prop} (h:aR ks (.int z)=some t):E8 (.int z) en Q (.dict ks)=Q (t,en):=by
 show W ((aR ks (.int z)).map _) Q=_;rw [h];exact ax _ _
def cD (e:Ent):D:=.int (e.r.length:Int)
def AY (T:List Ent):prs (T.map (kvf fun e=>dC e.p))=T.map fun e=>.tuple [iD e.k,dC e.p]:=by
 unfold prs;rw [zaR];rfl
def lN {T:List Ent} {i:Nat} (h:(keys T).Nodup):(keys (T.take i)).Nodup:=by
 unfold keys;rw [List.map_take];exact h.sublist (List.take_sublist ..)
def uq {T:List Ent} {i:Nat} {e:Ent} (h:(keys T).Nodup) (he:T[i]?=some e):e.k ∉ keys (T.take i):=fun z=>by
 have et:T.take (i+1)=T.take i++[e]:=by rw [List.take_succ,he]; rfl
 have:=lN (i:=i+1) h;rw [et] at this;have h2:(keys (T.take i)++[e.k]).Nodup:=by
  have q:keys (T.take i++[e])=keys (T.take i)++[e.k]:=zaC
  rwa [q] at this
 exact (List.nodup_append.mp h2).2.2 e.k z e.k (by simp) rfl
def srt (S:List Nat):D:=.list ((eF (S.map fun k:Nat=>(k:Int))).map .int)
def LS (T:List Ent) (n:Nat):List D:=(List.range n).map fun l=>srt (lay T l)
def sB:∀ S:List Nat,cL (S.map iD)=some (S.map fun k:Nat=>(k:Int))
 | []=>rfl
 | k :: S=>by
  show (cL (S.map iD)).map ((k:Int) :: ·)=_;rw [sB S];rfl
def m8 {S:List Nat} (h:eY (S.map fun k:Nat=>(k:Int))):eE [nD S]=some (srt S):=by
 show (cL (S.map iD)).bind _=_;rw [sB];exact if_pos h
def n6 (S:List Nat):fm (srt S)=true:=by
 show List.all _ _=true;rw [List.all_map,List.all_eq_true];intro x _;rfl
def sd {N:Nat} {T:List Ent} (t:TOk N T) (hN:N<=1000) (cs:∀ l,eY ((lay T l).map fun k:Nat=>(k:Int))):W (dy [eR T]) (fun r=>r=(.list (LS T (hgt T)),[none])):=by
 have tl:=t.len;have hg:∀ i,hgt (T.take i)<=1000:=fun i=>jp fun e he=>by
  obtain ⟨j,hj⟩:=List.getElem?_of_mem (List.mem_of_mem_take he)
  have:=t.rl j e hj
  have:=(zah.mp hj).1;omega
 simp only [dy,i7,ws];refine W.of (show mY _=some (.dict [],_) from rfl) ?_;simp only [ws];refine Hm (ks:=T.map (kvf fun e=>dC e.p)) rfl ?_;rw [AY];simp only [ws,Bool.false_eq_true,if_false];refine jX (fun i en=>∃ o3 o4,en=[none,some (jA cD (T.take i)),some (.list (bz (T.take i) (hgt (T.take i)))),o3,o4]) ⟨none,none,rfl⟩ ?_ ?_
 ·rintro i t' en ht ⟨o3,o4,rfl⟩;rw [zao] at ht;obtain ⟨e,he,rfl⟩:=zab.mp ht;have il:=(zah.mp he).1;have et:T.take (i+1)=T.take i++[e]:=by rw [List.take_succ,he]; rfl
  have nk:=uq t.nd he;have h1:=hg i;have h2:=hg (i+1);have tk:(T.take i).length=i:=by rw [zaE]; omega
  have nd1:=lN (i:=i+1) t.nd;have le:e.r.length<=hgt (T.take i):=by
   rcases t.par i e he with ⟨_,p2⟩ | ⟨j,f,s,p1,p2,p3,p4⟩
   ·rw [p2]; exact Nat.zero_le _
   ·have:f∈T.take i:=by
     obtain ⟨q1,q2⟩:=zah.mp p2;rw [List.mem_take_iff_getElem];exact ⟨j,by omega,q2⟩
    have:=dh this;rw [p4,zae];exact this
  have ed:fO ((T.take i).map (kvf cD)) (.int (e.k:Int)) (.int (e.r.length:Int))=(T.take (i+1)).map (kvf cD):=by
   rw [show PyData.int (e.k:Int)=iD e.k from rfl,ni nk,et,zaC];rfl
  have lk:aR ((T.take (i+1)).map (kvf cD)) (.int (e.k:Int))=some (.int (e.r.length:Int)):=df (f:=cD) nd1 (i:=i) (by rw [List.getElem?_take_of_lt (by omega)]; exact he);have app:∀ {n:Nat} {o4:Option D} {P:Fl->Prop},e.r.length < n->n<=1000->(∃ o3 o4',[none,some (PyData.dict ((T.take (i+1)).map (kvf cD))),some (.list (bz (T.take (i+1)) n)),some (.int (e.k:Int)),o4]=[none,some (jA cD (T.take (i+1))),some (.list (bz (T.take (i+1)) (hgt (T.take (i+1))))),o3,o4']) ->
    W (b8 2 (pIx 2 (cJ 2) (aP 1 (aa 3))) (aa 3) [none,some (PyData.dict ((T.take (i+1)).map (kvf cD))),some (.list (bz (T.take i) n)),some (.int (e.k:Int)),o4]) (fun q=>∃ o3 o4',q.2=[none,some (jA cD (T.take (i+1))),some (.list (bz (T.take (i+1)) (hgt (T.take (i+1))))),o3,o4']):=fun {n o4 P} hn hn2 hx=>by
   refine fI (eW (eV (t:=.list (bz (T.take i) n)) rfl ?_));simp only [ws,dg3 lk];have ix:ixN (bz (T.take i) n).length (e.r.length:Int)=some e.r.length:=dX (by rw [cK]; exact hn);refine ⟨_,_,_,e.r.length,rfl,rfl,.inl rfl,ix,by rw [cK]; exact hn,.list (bz (T.take i) n),(lay (T.take i) e.r.length).map iD,rfl,?_,?_⟩
   ·show ((bz (T.take i) n)[e.r.length]?).bind _=_;rw [iI hn];rfl
   ·simp only [ws];refine ⟨cI ?_,?_⟩
    ·have:(lay (T.take i) e.r.length).length<=(T.take i).length:=by
      unfold lay;rw [zad];exact List.length_filter_le ..
     omega
    ·obtain ⟨o3,o4',hx⟩:=hx;refine ⟨o3,o4',?_⟩;rw [<- hx];have es:=uv (T:=T.take i) (e:=e) hn;have ep:bg (.list (bz (T.take i) n)) ([]++[e.r.length]) (.list ((lay (T.take i) e.r.length).map iD++[.int (e.k:Int)]))=.list (bz (T.take (i+1)) n):=by
      rw [et,<- es];show PyData.list ((bz (T.take i) n).set e.r.length (((bz (T.take i) n)[e.r.length]?).elim .none fun c=>bg c [] _))=_;rw [iI hn];rfl
     show [none,some _,some (bg _ _ _),some _,o4]=_;rw [ep]
  have body:∀ {o4:Option D},W ((aj (sIf (tV (e2 eqD (aP 1 (aa 3)) (eN br (ad (aa 2) ah)))) (bh (bG 2 (aO ah))) aW) (bh (b8 2 (pIx 2 (cJ 2) (aP 1 (aa 3))) (aa 3)))) [none,some (PyData.dict ((T.take (i+1)).map (kvf cD))),some (.list (bz (T.take i) (hgt (T.take i)))),some (.int (e.k:Int)),o4]) (kIt (fun en=>∃ o3 o4,en=[none,some (jA cD (T.take (i+1))),some (.list (bz (T.take (i+1)) (hgt (T.take (i+1))))),o3,o4]) (nL (aI (eLC true (cE (aa 2)) (gN 0) cY gC [none])) (kFn [1] fun r=>r=(.list (LS T (hgt T)),[none])))):=fun {o4}=>by
   have eh:hgt (T.take (i+1))=max (hgt (T.take i)) (e.r.length+1):=by rw [et,pK]
   by_cases c:e.r.length=hgt (T.take i)
   ·have d1:decide ((e.r.length:Int)=(hgt (T.take i):Nat))=true:=by rw [decide_eq_true_iff]; omega
    have em:bz (T.take i) (hgt (T.take i))++[.list []]=bz (T.take i) (hgt (T.take i)+1):=se fun f hf z=>by
     have:=dh hf;omega
    simp only [ws,dg3 lk,cK,d1,em];refine ⟨cI (by omega),?_⟩;refine W.use (app (n:=hgt (T.take i)+1) (P:=fun _=>True) (by omega) (by omega) ⟨_,_,by rw [eh,show max (hgt (T.take i)) (e.r.length+1)=hgt (T.take i)+1 by omega]; rfl⟩) ?_;rintro ⟨_,_⟩ ⟨o3,o4',rfl⟩;simp only [ws];exact ⟨_,_,rfl⟩
   ·have d1:decide ((e.r.length:Int)=(hgt (T.take i):Nat))=false:=by rw [decide_eq_false_iff_not]; omega
    simp only [ws,dg3 lk,cK,d1];refine W.use (app (n:=hgt (T.take i)) (P:=fun _=>True) (by omega) (by omega) ⟨_,_,by rw [eh,show max (hgt (T.take i)) (e.r.length+1)=hgt (T.take i) by omega]; rfl⟩) ?_;rintro ⟨_,_⟩ ⟨o3,o4',rfl⟩;simp only [ws];exact ⟨_,_,rfl⟩
  rcases t.par i e he with ⟨p1,p2⟩ | ⟨j,f,s,p1,p2,p3,p4⟩
  ·rw [p1];have z0:(PyData.int 0)=.int (e.r.length:Int):=by rw [p2]; rfl
   simp only [ws,gA,iD,dC,jA];refine lb ?_;simp only [ws];refine ⟨⟨_,rfl⟩,_,rfl,rfl,cI (by rw [zad]; omega),?_⟩;rw [z0,ed];have b:=body (o4:=some .none);simp only [ws] at b ⊢;exact b
  ·have fk:aR ((T.take i).map (kvf cD)) (.int (f.k:Int))=some (.int (f.r.length:Int)):=df (f:=cD) (lN t.nd) (i:=j) (by rw [List.getElem?_take_of_lt (by omega)]; exact p2);have z0:(PyData.int ((f.r.length:Int)+1))=.int (e.r.length:Int):=by rw [p4,zae]; rfl
   rw [p3];simp only [ws,gA,iD,dC,jA];refine lb ?_;simp only [ws,dg3 fk];refine ⟨⟨_,rfl⟩,_,rfl,rfl,cI (by rw [zad]; omega),?_⟩;rw [z0,ed];have b:=body (o4:=some (.tuple [.int (f.k:Int),.int (s:Int)]));simp only [ws] at b ⊢;exact b
 ·rintro en ⟨o3,o4,rfl⟩;rw [zad,zaQ];have hT:=hg T.length;rw [zaQ] at hT;simp only [ws];refine fH (fun t=>(eE [t]).getD .none) (by rw [cK]; exact szB (by omega)) (fun t' ht=>?_) fun o=>?_
  ·obtain ⟨l,hl,rfl⟩:=zaz.mp ht;simp only [ws,gC];refine HM ?_;simp only [ws,m8 (cs l),Option.getD_some];exact n6 _
  ·have em:List.map (fun t=>(eE [t]).getD .none) (bz T (hgt T))=LS T (hgt T):=by
    unfold bz LS;rw [zaR];refine List.map_congr_left fun l _=>?_;show (eE [nD (lay T l)]).getD .none=_;rw [m8 (cs l)];rfl
   rw [em];simp only [ws]
def shD (es:List Bool) (T:List Ent):D:=match T.find? (isE es) with
 | some e=>.tuple [.str "row",nD e.r,.list (LS T (e.r.length+1))]
 | none=>.tuple [.str "none",.list (LS T (hgt T))]
def Co {T:List Ent} {n m:Nat} (h:n<=m):fP (LS T m) none (some (n:Int))=LS T n:=by
 unfold fP;rw [HT.sIx_none,HT.sIx_nat,List.drop_zero];unfold LS;rw [zad,List.length_range,Nat.min_eq_left h,Nat.sub_zero,<- List.map_take,List.take_range,Nat.min_eq_left h]
def tZ {es:List Bool} {G:Gr} (g:GOk G) (hes:es.length=G.length) (cs:∀ l,eY ((lay (TT G G.length) l).map fun k:Nat=>(k:Int))):W (cZ [.tuple [.list (es.map .bool),.list (G.map aC)]]) (fun r=>r=(shD es (TT G G.length),[none])):=by
 have t:=eX g G.length;have fo:=uP g hes;simp only [cZ,jM,ws];refine W.use (pZ g) ?_;rintro _ rfl;simp only [ws];refine W.use (sd t g.n cs) ?_;rintro _ rfl;simp only [ws];refine W.use fo ?_;rintro _ rfl;generalize TT G G.length=T at t;unfold frD shD;cases hf:T.find? (isE es) with
 | none=>simp only [ws]
 | some e =>
  have hm:=dh (List.mem_of_find?_eq_some hf);simp only [ws,nD];have fl:((e.r.map iD).all scaD && (LS T (hgt T)).all fm)=true:=by
   rw [Bool.and_eq_true,List.all_eq_true,List.all_eq_true];constructor
   ·intro x hx;obtain ⟨k,_,rfl⟩:=zaz.mp hx;rfl
   ·intro x hx;obtain ⟨l,_,rfl⟩:=zaz.mp hx;exact n6 _
  refine Gn (r:=e.r.map iD) (ls:=LS T (hgt T)) rfl rfl ?_;simp only [ws];refine ⟨_,rfl,fl,?_⟩;rw [show ((e.r.length:Nat):Int)+1=((e.r.length+1:Nat):Int) from rfl,Co hm]
def rwF (e:Ent):D:=nD e.r
def rZ (T:List Ent) (k:Nat):fG (.int (k:Int)) (.dict (T.map (kvf rwF)))=some (.bool (!decide (k∈keys T))):=r6 _ _ _
def tf {N:Nat} {T:List Ent} {n:Nat} {e:Ent} {r:List (Option Nat)} (t:TOk N T) (hN:N<=1000) (he:T[n]?=some e) (hr:∀ k,some k∈r->k < N) {x0 x3 o5 o6 x7 x8 x9 x10:Option D} {P:Fl->Prop}
  (hP:∀ o5 o6,P (.nx [x0,some (.dict ((fol e T 0 r).map (kvf rwF))),some (ahD (fol e T 0 r)),x3,some (.int (e.k:Int)),o5,o6,x7,x8,x9,x10])) :
  W (bW (gT (gsC (gN 5) (gsC (gN 6) gs0))) dI (cG (r.map goD)) [x0,some (.dict (T.map (kvf rwF))),some (ahD T),x3,some (.int (e.k:Int)),o5,o6,x7,x8,x9,x10]) P:=by
 refine jX (fun i en=>∃ o5 o6,en=[x0,some (.dict ((fol e T 0 (r.take i)).map (kvf rwF))),some (ahD (fol e T 0 (r.take i))),x3,some (.int (e.k:Int)),o5,o6,x7,x8,x9,x10]) ⟨o5,o6,rfl⟩ ?_ ?_
 ·rintro i t' en ht ⟨p6,p7,rfl⟩;obtain ⟨u,hu,rfl⟩:=gQ ht;rw [zao] at hu;obtain ⟨w,hw,rfl⟩:=zab.mp hu;have hi:=(zah.mp hw).1;have et:r.take (i+1)=r.take i++[w]:=by rw [List.take_succ,hw]; rfl
  have ef:fol e T 0 (r.take (i+1))=stp e (fol e T 0 (r.take i)) i w:=by
   rw [et,ki,zaE,Nat.min_eq_left (by omega),za4]
  rw [ef];obtain ⟨tk,he'⟩:=io (r.take i) (i:=0) t he fun k z=>hr k (List.mem_of_mem_take z);generalize fol e T 0 (r.take i)=Ti at tk he';have ln:=tk.len;cases w with
  | none =>
   simp only [ws,dI,goD];exact ⟨_,_,rfl⟩
  | some k =>
   by_cases hk:k∈keys Ti
   ·simp only [ws,dI,goD,rZ,hk];exact ⟨_,_,by rw [show stp e Ti i (some k)=if k∈keys Ti then Ti else _ from rfl,if_pos hk]⟩
   ·have lk:aR (Ti.map (kvf rwF)) (.int (e.k:Int))=some (.list (e.r.map iD)):=df (f:=rwF) tk.nd he';have rl:=tk.rl n e he';have nl:=(zah.mp he').1;simp only [ws,dI,goD,rZ,hk];refine lb ?_;simp only [ws,dg3 lk];refine ⟨szB (by simp only [zac,List.length_nil]; omega),⟨_,rfl⟩,_,rfl,rfl,cI (by rw [zad]; omega),?_⟩;have ed:fO (Ti.map (kvf rwF)) (.int (k:Int)) (.list (e.r.map iD++[.int (i:Int)]))=List.map (kvf rwF) (Ti++[(⟨k,some (e.k,i),e.r++[i]⟩:Ent)]):=by
     rw [show PyData.int (k:Int)=iD k from rfl,ni hk,zaC];show _=_++[(iD k,PyData.list ((e.r++[i]).map iD))];rw [zaC];rfl
    simp only [ws,ed,ahD,nD];have es:stp e Ti i (some k)=Ti++[⟨k,some (e.k,i),e.r++[i]⟩]:=if_neg hk;have e4:PyData.list ((keys (Ti++[⟨k,some (e.k,i),e.r++[i]⟩])).map iD)=.list ((keys Ti).map iD++[.int (k:Int)]):=nJ Ti _;refine ⟨cI (by omega),some (.int (i:Int)),some (.int (k:Int)),?_⟩;rw [es,e4]
 ·rintro en ⟨p6,p7,rfl⟩;rw [gP,zad,zaQ];exact hP _ _
def u4 {es:List Bool} {G:Gr} (g:GOk G) {x7 x8 x9 x10:Option D} {Q:Fl->Prop}
  (hQ:∀ o3 o4 o5 o6,Q (.nx [some (.tuple [.list (es.map .bool),.list (G.map aC)]),some (.dict ((TT G G.length).map (kvf rwF))),some (ahD (TT G G.length)),o3,o4,o5,o6,x7,x8,x9,x10])) :
  W (bN ft ia [some (.tuple [.list (es.map .bool),.list (G.map aC)]),some (.dict ((TT G 0).map (kvf rwF))),some (ahD (TT G 0)),some (.int 0),none,none,none,x7,x8,x9,x10]) Q:=by
 have gn:=g.n;refine mi (fun m en=>∃ n o5 o6 o7,en=[some (.tuple [.list (es.map .bool),.list (G.map aC)]),some (.dict ((TT G n).map (kvf rwF))),some (ahD (TT G n)),some (.int (n:Int)),o5,o6,o7,x7,x8,x9,x10]/\n<=(TT G n).length/\m=G.length - n) ?_ ⟨0,_,_,_,rfl,Nat.zero_le _,rfl⟩;rintro m en ⟨n,o5,o6,o7,rfl,h1,rfl⟩;have t:=eX g n;have ln:=t.len;by_cases hn:n < (TT G n).length
 ·obtain ⟨e,he⟩:∃ e,(TT G n)[n]?=some e:=⟨_,zak hn⟩;have hk:=t.lt e (zaX he);obtain ⟨r,hr⟩:∃ r,G[e.k]?=some r:=⟨_,zak hk⟩;have d1:decide ((n:Int) < ((TT G n).length:Nat))=true:=by
   rw [decide_eq_true_iff];omega
  have e1:atI ((keys (TT G n)).map iD) (n:Int)=some (.int (e.k:Int)):=by
   rw [aV,zao,zao,he];rfl
  have e2:atI (G.map aC) (e.k:Int)=some (.list (r.map goD)):=by rw [aV,zao,hr]; rfl
  have eT:TT G (n+1)=fol e (TT G n) 0 r:=by
   show dQ G (TT G n) n=_;unfold dQ;rw [he];show fol e _ 0 ((G[e.k]?).getD [])=_;rw [hr];rfl
  simp only [ws,ft,ia,ahD,nD,d1,e1,e2];have ci:=tf (x0:=some (.tuple [.list (es.map .bool),.list (G.map aC)])) (x3:=some (.int (n:Int))) (o5:=o6) (o6:=o7) (x7:=x7) (x8:=x8) (x9:=x9) (x10:=x10) t gn he (g.lt r (zaX hr)) (P:=fun f=>∃ o6 o7,f=.nx [some (.tuple [.list (es.map .bool),.list (G.map aC)]),some (.dict ((TT G (n+1)).map (kvf rwF))),some (ahD (TT G (n+1))),some (.int (n:Int)),some (.int (e.k:Int)),o6,o7,x7,x8,x9,x10]) fun p6 p7=>⟨p6,p7,by rw [eT]⟩;refine W.use ci ?_;rintro _ ⟨p6,p7,rfl⟩;simp only [ws];have t':=(eX g (n+1)).len;have up:n+1<=(TT G (n+1)).length:=by
   rw [eT]
   have:=(zah.mp (io r (i:=0) t he (g.lt r (zaX hr))).2).1;omega
  exact ⟨G.length - (n+1),by omega,n+1,_,_,_,rfl,up,rfl⟩
 ·have d1:decide ((n:Int) < ((TT G n).length:Nat))=false:=by
   rw [decide_eq_false_iff_not];omega
  simp only [ws,ft,ahD,nD,d1]
  have:=hQ (some (.int (n:Int))) o5 o6 o7;rw [<- tK g (by omega) h1] at this;exact this
def Am (S:List Nat):∃ sk:List Nat,srt S=nD sk/\sk.Perm S/\sk.Pairwise (·<=·):=by
 have pm:=bP (S.map fun k:Nat=>(k:Int));have nn:∀ z∈eF (S.map fun k:Nat=>(k:Int)),0<=z:=fun z hz=>by
  obtain ⟨k,_,rfl⟩:=zaz.mp (pm.mem_iff.mp hz);omega
 have st:=b9 (S.map fun k:Nat=>(k:Int));refine ⟨(eF (S.map fun k:Nat=>(k:Int))).map Int.toNat,?_,?_,?_⟩
 ·unfold srt nD;rw [zaR];congr 1;refine List.map_congr_left fun z hz=>?_;show PyData.int z=PyData.int ((z.toNat:Nat):Int);rw [Int.toNat_of_nonneg (nn z hz)]
 ·have:=pm.map Int.toNat;rw [zaR] at this;refine this.trans ?_;rw [show (Int.toNat ∘ fun k:Nat=>(k:Int))=id from funext fun k=>zaL k,List.map_id]
 ·rw [List.pairwise_map];exact st.imp fun h=>Int.toNat_le_toNat h
def rJ {l:List Nat} (h:l.Pairwise (·<=·)):srt l=nD l:=by
 unfold srt nD;have e:eF (l.map fun k:Nat=>(k:Int))=l.map fun k:Nat=>(k:Int):=iy (bP _) (b9 _) (List.pairwise_map.mpr (h.imp fun {a b} h=>Int.ofNat_le.mpr h));rw [e,zaR];rfl
def Em {S T:List Nat} (h1:S.Nodup) (h2:T.Nodup) (h:∀ s,s∈S↔s∈T):srt S=srt T:=by
 have p:S.Perm T:=(List.perm_ext_iff_of_nodup h1 h2).mpr h;unfold srt;rw [iy ((bP _).trans ((p.map fun k:Nat=>(k:Int)).trans (bP _).symm)) (b9 _) (b9 _)]
def eI (T:List Ent) (s:Nat):Nat:=((T.find? fun e=>decide (e.k=s)).map (·.r.length)).getD 0
def jS:∀ {T:List Ent} {j:Nat} {e:Ent},(keys T).Nodup->T[j]?=some e->eI T e.k=e.r.length
 | [],j,e,_,h=>by simp at h
 | a :: T,0,e,_,h=>by
  cases h;unfold eI;rw [List.find?_cons_of_pos (by simp)];rfl
 | a :: T,j+1,e,nd,h=>by
  have h':T[j]?=some e:=by simpa using h
  have nd':=zbc.mp (show (a.k :: keys T).Nodup from nd);have ne:a.k≠e.k:=fun z=>nd'.1 (by rw [z]; exact List.mem_map_of_mem (zaX h'));have ih:=jS nd'.2 h';unfold eI at ih ⊢;rw [List.find?_cons_of_neg (by simpa using ne)];exact ih
def dl (T:List Ent) (S:List Nat) (n:Nat):List D:=(List.range n).map fun l=>nD (S.filter fun s=>decide (eI T s=l))
def jz (T:List Ent) (S:List Nat) (n:Nat):(dl T S n).length=n:=by unfold dl; rw [zad,List.length_range]
def kZ {T:List Ent} {S:List Nat} {n l:Nat} (h:l < n):(dl T S n)[l]?=some (nD (S.filter fun s=>decide (eI T s=l))):=by
 unfold dl;rw [zao,List.getElem?_range h];rfl
def Gf {T:List Ent} {S:List Nat} {s n:Nat} (h:eI T s < n):(dl T S n).set (eI T s) (.list ((S.filter fun x=>decide (eI T x=eI T s)).map iD++[iD s]))=dl T (S++[s]) n:=by
 refine List.ext_getElem? fun l=>?_;by_cases hl:l < n
 ·rw [kZ hl,List.filter_append];by_cases q:eI T s=l
  ·subst q;rw [zaP (by rw [jz]; exact h),List.filter_cons_of_pos (by simp)];show _=some (PyData.list _);rw [zaC];rfl
  ·rw [zaO q,List.filter_cons_of_neg (by simpa using q),kZ hl];simp
 ·rw [List.getElem?_eq_none (by rw [zaV,jz]; omega),List.getElem?_eq_none (by rw [jz]; omega)]
def Ce {T:List Ent} {S:List Nat} {s n:Nat} (h:¬ eI T s < n):dl T (S++[s]) n=dl T S n:=by
 unfold dl;refine List.map_congr_left fun l hl=>?_
 have:=List.mem_range.mp hl;rw [List.filter_append,List.filter_cons_of_neg (by simp; omega)];simp
def Gg {N:Nat} {T:List Ent} (t:TOk N T) {sk:List Nat} (hp:sk.Perm (keys T)) (hs:sk.Pairwise (·<=·)) (n:Nat):dl T sk n=LS T n:=by
 unfold dl LS;refine List.map_congr_left fun l _=>?_;have nd1:sk.Nodup:=hp.nodup_iff.mpr t.nd;rw [<- rJ (hs.sublist List.filter_sublist)];refine Em (nd1.sublist List.filter_sublist) ?_ fun s=>?_
 ·unfold lay;exact (t.nd).sublist (List.Sublist.map _ List.filter_sublist)
 ·unfold lay;rw [List.mem_filter,hp.mem_iff,zaz,zaz];constructor
  ·rintro ⟨⟨e,he,rfl⟩,h2⟩;obtain ⟨j,hj⟩:=List.getElem?_of_mem he;rw [jS t.nd hj] at h2;exact ⟨e,List.mem_filter.mpr ⟨he,h2⟩,rfl⟩
  ·rintro ⟨e,he,rfl⟩;obtain ⟨h1,h2⟩:=List.mem_filter.mp he;obtain ⟨j,hj⟩:=List.getElem?_of_mem h1;refine ⟨⟨e,h1,rfl⟩,?_⟩;rw [jS t.nd hj];exact h2
def nF:∀ {T:List Ent},T≠[]->fc (T.map fun e=>(e.r.length:Int))=(hgt T:Int) - 1
 | [a],_=>by
  show (a.r.length:Int)=((max (a.r.length+1) 0:Nat):Int) - 1;omega
 | a :: b :: T,_=>by
  have ih:=nF (T:=b :: T) (by simp);show max (a.r.length:Int) (fc ((b :: T).map fun e=>(e.r.length:Int)))=((max (a.r.length+1) (hgt (b :: T)):Nat):Int) - 1;rw [ih]
  have:1<=hgt (b :: T):=by show 1<=max (b.r.length+1) (hgt T); omega
  omega
def nT:∀ T:List Ent,cL (T.map cD)=some (T.map fun e=>(e.r.length:Int))
 | []=>rfl
 | e :: T=>by
  show (cL (T.map cD)).map ((e.r.length:Int) :: ·)=_;rw [nT T];rfl
def Be {T:List Ent} (h:T≠[]):qE [.list (T.map cD)]=some (.int ((hgt T:Int) - 1)):=by
 show (cL (T.map cD)).bind _=_;rw [nT];show grd _ _=_;unfold grd;rw [if_pos (by simpa using h),nF h]
def jq:∀ M:List Nat,aG (M.map iD)=true/\bT (M.map iD)=0
 | []=>⟨rfl,rfl⟩
 | k :: M=>by
  obtain ⟨h1,h2⟩:=jq M;rw [zar];exact ⟨by simp [aG,noDict,iD,h1],by simp [bT,cS,iD,h2]⟩
def ER (M:List Nat):neD (.list (M.map iD)) (.list [])=some (.bool (!decide (M=[]))):=by
 show grd _ _=_;unfold grd;rw [if_pos ⟨by simp only [noDict]; exact (jq M).1,rfl,by simp only [cS,(jq M).2]; decide⟩];cases M with
 | nil=>rfl
 | cons u l=>rfl
def u0 (M:List Nat):eqD (.list (M.map iD)) (.list [])=some (.bool (decide (M=[]))):=by
 show grd _ _=_;unfold grd;rw [if_pos ⟨by simp only [noDict]; exact (jq M).1,rfl,by simp only [cS,(jq M).2]; decide⟩];cases M with
 | nil=>rfl
 | cons u l=>rfl
def lZ (es:List Bool) (T:List Ent):List Nat:=(T.filter (isE es)).map (·.k)
def Cd {es:List Bool} {T:List Ent} (h:T.find? (isE es)=none):lZ es T=[]:=by
 unfold lZ;rw [List.filter_eq_nil_iff.mpr]
 ·rfl
 ·exact List.find?_eq_none.mp h
def u3 {es:List Bool} {T:List Ent} {e:Ent} (h:T.find? (isE es)=some e):∃ r,lZ es T=e.k :: r:=by
 have:(T.filter (isE es)).head?=some e:=by rw [List.head?_filter]; exact h
 obtain ⟨r,hr⟩:=List.head?_eq_some_iff.mp this;unfold lZ;rw [hr];exact ⟨_,rfl⟩
def on {N:Nat} {T:List Ent} (t:TOk N T) (hN:N<=1000) {n:Nat} {lg:Int} (hlg:lg=(n:Int) - 1) (hn:n<=1000) (hn1:1<=n) (cs:eY ((keys T).map fun k:Nat=>(k:Int))) {x0 x3 x4 x5 x6 x7:Option D} {Q:Fl->Prop}
  (hQ:∀ o10,Q (.nx [x0,some (.dict (T.map (kvf rwF))),some (.list ((keys T).map iD)),x3,x4,x5,x6,x7,some (.int lg),some (.list (LS T n)),o10])) :
  W (eE [.list ((keys T).map iD)]) (gY [x0,some (.dict (T.map (kvf rwF))),some (.list ((keys T).map iD)),x3,x4,x5,x6,x7,some (.int lg),some (.list (dl T [] n)),none] (nP (uB (gN 10) fw Q))):=by
 have tl:=t.len;obtain ⟨sk,e1,hp,hs⟩:=Am (keys T);have so:eE [.list ((keys T).map iD)]=some (.list (sk.map iD)):=by rw [show PyData.list ((keys T).map iD)=nD (keys T) from rfl,m8 cs,e1]; rfl
 have sl:sk.length<=1000:=by rw [hp.length_eq,zad]; omega
 simp only [ws,so];refine jX (fun i en=>∃ o,en=[x0,some (.dict (T.map (kvf rwF))),some (.list ((keys T).map iD)),x3,x4,x5,x6,x7,some (.int lg),some (.list (dl T (sk.take i) n)),o]) ⟨none,rfl⟩ ?_ ?_
 ·rintro i t' en ht ⟨o,rfl⟩;rw [zao] at ht;obtain ⟨s,hs',rfl⟩:=zab.mp ht;have et:sk.take (i+1)=sk.take i++[s]:=by rw [List.take_succ,hs']; rfl
  obtain ⟨e,he,rfl⟩:=zaz.mp (hp.mem_iff.mp (zaX hs'));obtain ⟨j,hj⟩:=List.getElem?_of_mem he;have rle:=jS t.nd hj;have lk:aR (T.map (kvf rwF)) (.int (e.k:Int))=some (.list (e.r.map iD)):=df (f:=rwF) t.nd hj;by_cases c:e.r.length < n
  ·have d1:decide ((e.r.length:Int)<=lg)=true:=by rw [decide_eq_true_iff]; omega
   simp only [ws,fw,iD,dg3 lk,d1];refine fI (eW (eV (t:=.list (dl T (sk.take i) n)) rfl ?_));simp only [ws,dg3 lk];have ix:ixN (dl T (sk.take i) n).length (e.r.length:Int)=some e.r.length:=dX (by rw [jz]; exact c);refine ⟨_,_,_,e.r.length,rfl,rfl,.inl rfl,ix,by rw [jz]; exact c,.list (dl T (sk.take i) n),((sk.take i).filter fun x=>decide (eI T x=e.r.length)).map iD,rfl,?_,?_⟩
   ·show ((dl T (sk.take i) n)[e.r.length]?).bind _=_;rw [kZ c];rfl
   ·simp only [ws];refine ⟨cI ?_,some (.int (e.k:Int)),?_⟩
    ·have:=List.length_filter_le (fun x=>decide (eI T x=e.r.length)) (sk.take i)
     have:=List.length_take_le' i sk;omega
    ·have es:=Gf (T:=T) (S:=sk.take i) (s:=e.k) (n:=n) (by rw [rle]; exact c);rw [rle] at es;have ep:bg (.list (dl T (sk.take i) n)) ([]++[e.r.length]) (.list (((sk.take i).filter fun x=>decide (eI T x=e.r.length)).map iD++[.int (e.k:Int)]))=.list (dl T (sk.take (i+1)) n):=by
      rw [et,<- es];show PyData.list ((dl T (sk.take i) n).set e.r.length (((dl T (sk.take i) n)[e.r.length]?).elim .none fun c=>bg c [] _))=_;rw [kZ c];rfl
     show [x0,some _,some _,x3,x4,x5,x6,x7,some _,some (bg _ _ _),some _]=_;rw [ep]
  ·have d1:decide ((e.r.length:Int)<=lg)=false:=by rw [decide_eq_false_iff_not]; omega
   simp only [ws,fw,iD,dg3 lk,d1];exact ⟨_,by rw [et,Ce (by rw [rle]; exact c)]⟩
 ·rintro en ⟨o,rfl⟩;rw [zad,zaQ,Gg t hp hs];exact hQ o
def Ge {es:List Bool} {G:Gr} (g:GOk G) (hes:es.length=G.length) (cs:eY ((keys (TT G G.length)).map fun k:Nat=>(k:Int))):W (c9 [.tuple [.list (es.map .bool),.list (G.map aC)]]) (fun r=>r=(shD es (TT G G.length),[none])):=by
 have t:=eX g G.length;have gn:=g.n;simp only [c9,jN,ws];refine W.of (show fq [(eC (.int 0),aO ah)] [some (.tuple [.list (es.map .bool),.list (G.map aC)]),none,none,none,none,none,none,none,none,none,none]=some (.dict ((TT G 0).map (kvf rwF)),[some (.tuple [.list (es.map .bool),.list (G.map aC)]),none,none,none,none,none,none,none,none,none,none]) from rfl) ?_;simp only [ws];refine u4 g fun o3 o4 o5 o6=>?_;generalize TT G G.length=T at t cs;have tl:=t.len;have tn:T≠[]:=fun z=>by have:=t.h0; rw [z] at this; simp at this
 have hg:hgt T<=1000:=jp fun e he=>by
  obtain ⟨j,hj⟩:=List.getElem?_of_mem he
  have:=t.rl j e hj
  have:=(zah.mp hj).1;omega
 have hg1:1<=hgt T:=by
  have:=dh (zaX t.h0);omega
 simp only [ws,ahD,nD];refine tJ (fun t=>match t with | .int z=>es.getD z.toNat false | _=>false) (fun t=>t) (szB (by rw [zad,zad]; omega)) (fun t' ht=>?_) (fun t' ht _=>by simp only [ws,j8]) fun o=>?_
 ·rw [zaR] at ht;obtain ⟨e,he,rfl⟩:=zaz.mp ht;have ae:=AI (es:=es) (e:=e) (by have:=t.lt e he; omega)
  have:isE es e=es.getD e.k false:=rfl;rw [this] at ae;simp only [ws,j3,Function.comp_apply,iD,ae,zaL]
 have ef:List.map (fun t=>t) (List.filter (fun t=>match t with | PyData.int z=>es.getD z.toNat false | _=>false) (List.map iD (keys T)))=(lZ es T).map iD:=by
  rw [List.map_id',zaR,List.filter_map];unfold lZ;rw [zaR];rfl
 simp only [ws,ef];refine fH (fun t=>match aR (T.map (kvf rwF)) t with | some (.list l)=>.int (l.length:Nat) | _=>.none) (szB (by rw [zad,zad]; omega)) (fun t' ht=>?_) fun o=>?_
 ·rw [zaR] at ht;obtain ⟨e,he,rfl⟩:=zaz.mp ht;obtain ⟨j,hj⟩:=List.getElem?_of_mem he;have lk:aR (T.map (kvf rwF)) (.int (e.k:Int))=some (.list (e.r.map iD)):=df (f:=rwF) t.nd hj;simp only [ws,j7,Function.comp_apply,iD,dg3 lk,lk]
 have em:List.map (fun t=>match aR (T.map (kvf rwF)) t with | some (.list l)=>PyData.int (l.length:Nat) | _=>.none) (List.map iD (keys T))=T.map cD:=by
  rw [zaR,zaR];refine List.map_congr_left fun e he=>?_;obtain ⟨j,hj⟩:=List.getElem?_of_mem he;show (match aR (T.map (kvf rwF)) (iD e.k) with | some (.list l)=>PyData.int (l.length:Nat) | _=>.none)=_;rw [df (f:=rwF) t.nd hj];show PyData.int ((e.r.map iD).length:Nat)=_;rw [zad];rfl
 simp only [ws,em,Be tn,ER];have rep:∀ n:Nat,(e9 0 n).map (fun _=>PyData.list [])=dl T [] n:=fun n=>by
  unfold e9 dl;rw [zaR];refine List.map_congr_left fun l _=>?_;rfl
 cases hf:T.find? (isE es) with
 | none =>
  have ek:=Cd hf;simp only [ws,ek,ER,u0];rw [show ((hgt T:Int) - 1+1).toNat=hgt T by omega];refine ⟨⟨by omega,by omega⟩,fH (fun _=>.list []) (szB (by rw [de]; omega)) (fun t' ht=>by simp only [ws,ib]) fun o=>?_⟩;rw [rep];simp only [ws];refine on t gn rfl hg hg1 cs fun o10=>?_;have q0:=u0 [];rw [zaB rfl] at q0;simp only [ws,q0,shD,hf]
 | some e =>
  obtain ⟨rs,ek⟩:=u3 hf;have he:=List.mem_of_find?_eq_some hf;obtain ⟨j,hj⟩:=List.getElem?_of_mem he;have hm:=dh he;have lk:aR (T.map (kvf rwF)) (.int (e.k:Int))=some (.list (e.r.map iD)):=df (f:=rwF) t.nd hj;have d0:decide (e.k :: rs=[])=false:=by simp
  have a0:atI (PyData.int (e.k:Int) :: List.map iD rs) 0=some (.int (e.k:Int)):=aV _ 0;have q0:=u0 (e.k :: rs);rw [zar,d0] at q0;simp only [ws,ek,d0,zar,iD,a0,dg3 lk];rw [show ((e.r.length:Int)+1).toNat=e.r.length+1 by omega];refine ⟨⟨by omega,by omega⟩,fH (fun _=>.list []) (szB (by rw [de]; omega)) (fun t' ht=>by simp only [ws,ib]) fun o=>?_⟩;rw [rep];simp only [ws];refine on t gn (n:=e.r.length+1) (by omega) (by omega) (by omega) cs fun o10=>?_;have q1:eqD (.list (PyData.int (e.k:Int) :: List.map iD rs)) (.list [])=some (.bool false):=q0;simp only [ws,q1,a0,dg3 lk,shD,hf,nD]
def Sm (j:Nat) (t:D):Prop:=W (aT j [t,t]) (fun r=>r=(.bool true,[none,none]))
def all_map {α:Type} (f:α->Bool) (l:List α):ku [.list (l.map fun a=>.bool (f a))]=some (.bool (l.all f)):=by
 show (gf _).map _=_
 have:gf (l.map fun a=>PyData.bool (f a))=some (l.map f):=by
  induction l with
  | nil=>rfl
  | cons a l ih =>
   show (gf (l.map fun a=>PyData.bool (f a))).map (f a :: ·)=_;rw [ih];rfl
 rw [this];show some (PyData.bool ((l.map f).all id))=_;rw [List.all_map];rfl
def jw (z:Int):eqD (.int z) (.int z)=some (.bool true):=by
 show grd _ _=_;unfold grd;rw [if_pos ⟨rfl,rfl,Nat.zero_le _⟩];simp [peq]
def t5 (j:Nat) (z:Int):Sm (j+1) (.int z):=by
 unfold Sm;have i1:fN ["list", "tuple"] (.int z)=some (.bool false):=rfl;have i2:fN ["bool", "str"] (.int z)=some (.bool false):=rfl;simp only [aT,cw,ws,i1,i2,jw]
def rm {j:Nat} {ts:List D} (hl:ts.length<=1000) (h:∀ t∈ts,Sm j t) {Q:List D × En->Prop} {en:En} (hen:en=[none,none]) (hQ:∀ en,Q (ts.map fun _=>.bool true,en)):W (lcF (gT (gsC (gN 0) (gsC (gN 1) gs0))) cY (gD (aT j)) (cH ts ts) [] en) Q:=by
 subst hen;have zl:(cH ts ts).length=ts.length:=by unfold cH; rw [List.length_zipWith]; omega
 refine Gp (fun en=>∃ a b,en=[a,b]) (fun _=>.bool true) (szB (by omega)) ⟨none,none,rfl⟩ (fun u hu en hj=>?_) fun en _=>?_
 ·obtain ⟨a,b,rfl⟩:=hj;obtain ⟨i,hi⟩:=List.getElem?_of_mem hu;unfold cH at hi;rw [List.getElem?_zipWith] at hi;cases ht:ts[i]? with
  | none=>rw [ht] at hi; cases hi
  | some t =>
   rw [ht] at hi;cases hi;simp only [ws,gD];refine W.use (h t (zaX ht)) ?_;rintro _ rfl;simp only [ws];exact ⟨_,_,rfl⟩
 ·have:(cH ts ts).map (fun _=>PyData.bool true)=ts.map fun _=>.bool true:=by
   rw [List.map_const',List.map_const',zl]
  rw [this];exact hQ en
def kt (ts:List D):ku [.list (ts.map fun _=>.bool true)]=some (.bool true):=by
 rw [all_map (fun _=>true) ts];simp
def mw {j:Nat} {ts:List D} (hl:ts.length<=1000) (h:∀ t∈ts,Sm j t):Sm (j+1) (.list ts):=by
 unfold Sm;have i1:fN ["list", "tuple"] (.list ts)=some (.bool true):=rfl;have i3:aA "list" (.list ts)=some (.bool true):=rfl;have n1:neD (.bool true) (.bool true)=some (.bool false):=rfl;simp only [aT,cw,ws,i1,i3,n1,jw];refine tH (ts:=ts) (us:=ts) (en1:=[some (.list ts),some (.list ts)]) ?_;simp only [ws];refine ⟨.inl trivial,rm hl h rfl fun en=>?_⟩;simp only [ws,kt]
def nc {j:Nat} {ts:List D} (hl:ts.length<=1000) (h:∀ t∈ts,Sm j t):Sm (j+1) (.tuple ts):=by
 unfold Sm;have i1:fN ["list", "tuple"] (.tuple ts)=some (.bool true):=rfl;have i3:aA "list" (.tuple ts)=some (.bool false):=rfl;have n1:neD (.bool false) (.bool false)=some (.bool false):=rfl;simp only [aT,cw,ws,i1,i3,n1,jw];refine tH (ts:=ts) (us:=ts) (en1:=[some (.tuple ts),some (.tuple ts)]) ?_;simp only [ws];refine ⟨.inr trivial,rm hl h rfl fun en=>?_⟩;simp only [ws,kt]
def ng {x:Str} (hx:kz [.str x]=some (.str (PyData.shown (.str x)))) (j:Nat):Sm (j+1) (.str x):=by
 unfold Sm;have i1:fN ["list", "tuple"] (.str x)=some (.bool false):=rfl;have i2:fN ["bool", "str"] (.str x)=some (.bool true):=rfl;have q:eqD (.str (PyData.shown (.str x))) (.str (PyData.shown (.str x)))=some (.bool true):=by
  show grd _ _=_;unfold grd;rw [if_pos ⟨rfl,rfl,Nat.zero_le _⟩];simp [peq]
 simp only [aT,cw,ws,i1,i2,hx,q]
def t4 (j:Nat):Sm (j+1) (.str "row"):=ng (if_pos ⟨rfl,by decide +kernel,by decide +kernel,by decide +kernel⟩) j
def rL (j:Nat):Sm (j+1) (.str "none"):=ng (if_pos ⟨rfl,by decide +kernel,by decide +kernel,by decide +kernel⟩) j
def rM (j:Nat) {l:List Nat} (h:l.length<=1000):Sm (j+2) (nD l):=mw (by rw [zad]; exact h) fun t ht=>by
 obtain ⟨k,_,rfl⟩:=zaz.mp ht;exact t5 j _
def pb (j:Nat) {N:Nat} {T:List Ent} (t:TOk N T) (hN:N<=1000) {n:Nat} (h:n<=1000):Sm (j+3) (.list (LS T n)):=mw (by unfold LS; rw [zad,List.length_range]; exact h) fun u hu=>by
 obtain ⟨l,_,rfl⟩:=zaz.mp hu;obtain ⟨sk,e1,hp,_⟩:=Am (lay T l);rw [e1];refine rM j ?_
 have:=t.len
 have:(lay T l).length<=T.length:=by
  unfold lay;rw [zad];exact List.length_filter_le ..
 rw [hp.length_eq];omega
def AN {N:Nat} {T:List Ent} {es:List Bool} (t:TOk N T) (hN:N<=1000):Sm 6 (shD es T):=by
 have hg:hgt T<=1000:=jp fun e he=>by
  have tl:=t.len;obtain ⟨j,hj⟩:=List.getElem?_of_mem he
  have:=t.rl j e hj
  have:=(zah.mp hj).1;omega
 unfold shD;cases hf:T.find? (isE es) with
 | none =>
  refine nc (show 2<=1000 by decide) fun u hu=>?_;rcases zay.mp hu with rfl | hu
  ·exact rL 4
  ·rw [zaH.mp hu];exact pb 2 t hN hg
 | some e =>
  have hm:=dh (List.mem_of_find?_eq_some hf);refine nc (show 3<=1000 by decide) fun u hu=>?_;rcases zay.mp hu with rfl | hu
  ·exact t4 4
  ·rcases zay.mp hu with rfl | hu
   ·exact rM 3 (by omega)
   ·rw [zaH.mp hu];exact pb 2 t hN (by omega)
end W32
namespace W32
open PySem L2 Mch Pen2
def Pn (n:Nat) (t:D):Prop:=∃ ns k l,t=Pen2.penD ns k l/\0<=k/\k<=(n:Int)/\0<=l
def Pn.mono {n m:Nat} {t:D} (h:Pn n t) (e:n<=m):Pn m t:=by
 obtain ⟨ns,k,l,rfl,h1,h2,h3⟩:=h;exact ⟨ns,k,l,rfl,h1,by omega,h3⟩
def cV {p:D} {m:Int} {n:Nat} (hp:Pn n p) (hn:n<=1000000) (h3:0 < m) (h4:m < 1073741824) {Q:D × En->Prop} (h:∀ r p',0<=r->r < m->Pn (n+1) p'->Q (.int r,[some p',none])):W (ak [p,.int m]) Q:=by
 obtain ⟨ns,k,l,rfl,k0,k1,l0⟩:=hp;obtain ⟨r,k',l',e,e1,e2,e3,e4,e5⟩:=Pen2.take_ok (ns:=ns) (k:=k) (l:=l) (m:=m) k0 (by omega) l0 h3 h4;exact W.of (show ak _=_ from e) (h r _ e1 e2 ⟨ns,k',l',rfl,by omega,by omega,e5⟩)
structure Mx (es:List Bool) (G:Gr):Prop where
 g:GOk G
 le:es.length=G.length
 ck:eY ((keys (TT G G.length)).map fun k:Nat=>(k:Int))
 cl:∀ l,eY ((lay (TT G G.length) l).map fun k:Nat=>(k:Int))
def pG (T:List Ent) (l:Nat):(lay T l).Sublist (keys T):=List.Sublist.map _ List.filter_sublist
def nz {es:List Bool} {G:Gr} (g:GOk G) (le:es.length=G.length) (h:G.length<=63):Mx es G:=by
 have t:=(eX g G.length).len;refine ⟨g,le,.inl ?_,fun l=>.inl ?_⟩
 ·rw [zad,zad];omega
 ·have:=(pG (TT G G.length) l).length_le;rw [zad] at this;rw [zad];omega
def p9 {p:D} {n:Nat} (hp:Pn n p) (hn:n<=900) {Q:D × En->Prop} (h:∀ (s:Nat) p',1<=s->s<=12->Pn (n+2) p'->Q (.int (s:Int),[some p'])):W (bq [p]) Q:=by
 obtain ⟨ns,k,l,rfl,k0,k1,l0⟩:=hp;obtain ⟨s,k',l',e,e1,e2,e3,e4,e5⟩:=tY (ns:=ns) (k:=k) (l:=l) k0 (by omega) l0;exact W.of (show bq _=_ from e) (h s _ e1 e2 ⟨ns,k',l',rfl,by omega,by omega,e5⟩)
def tI {p:D} {n s:Nat} {mo:Int} (hp:Pn n p) (hn:n<=900) (m1:1<=mo) (m2:mo<=40) (s1:1<=s) (s2:s<=12) {Q:D × En->Prop} (h:∀ es G p',Mx es G->Pn (n+600) p'->Q (.tuple [.list (es.map .bool),.list (G.map aC)],[some p',none,none])):W (bd [p,.int (s:Int),.int mo]) Q:=by
 obtain ⟨ns,k,l,rfl,k0,k1,l0⟩:=hp;obtain ⟨es,gs,k',l',e,b1,b2,b3,b4,b5,b6,b7⟩:=Bf (mo:=mo) (ns:=ns) (k:=k) (l:=l) (W:=s) m1 m2 s2 k0 (by omega) l0;refine W.of (show bd _=_ from e) (h es gs _ (nz ⟨by omega,by omega,fun r hr=>?_,fun r hr k hk=>?_⟩ b3.symm (by omega)) ⟨ns,k',l',rfl,by omega,by omega,b7⟩)
 ·rw [(b4 r hr).1]; exact s2
 ·rw [b3]; exact (b4 r hr).2 _ hk k rfl
def Af:∀ (l:List Nat) (x:Nat),(x :: l).Pairwise (·<=·)->oneB.go (x:Int) (l.map fun k:Nat=>(k:Int)) true=true
 | [],x,_=>rfl
 | y :: l,x,h=>by
  obtain ⟨h1,h2⟩:=List.pairwise_cons.mp h;show (decide ((x:Int)<=(y:Int)) && oneB.go (y:Int) (l.map fun k:Nat=>(k:Int)) true)=true;rw [Af l y h2,Bool.and_true,decide_eq_true_iff]
  have:=h1 y zaq;omega
def AH {l:List Nat} (h:l.Pairwise (·<=·)) (hl:l.length<=5000):eY (l.map fun k:Nat=>(k:Int)):=by
 refine .inr ⟨?_,by rw [zad]; exact hl⟩;cases l with
 | nil=>rfl
 | cons x l =>
  show (oneB.go (x:Int) (l.map fun k:Nat=>(k:Int)) true || _)=true;rw [Af l x h];rfl
def chG (m:Nat) (w:Option Nat):Gr:=(List.range m).map fun k=>if k=m - 1 then [w] else [some (k+1)]
def fh (m:Nat) (w:Option Nat):(chG m w).length=m:=by unfold chG; rw [zad,List.length_range]
def ma {m k:Nat} {w:Option Nat} (h:k < m):(chG m w)[k]?=some (if k=m - 1 then [w] else [some (k+1)]):=by
 unfold chG;rw [zao,List.getElem?_range h];rfl
def pY {m:Nat} {w:Option Nat} (hw:∀ k,w=some k->k < m):∀ n,n < m->keys (TT (chG m w) n)=List.range (n+1)
 | 0,_=>rfl
 | n+1,h=>by
  have ih:=pY hw n (by omega);have len:(TT (chG m w) n).length=n+1:=by
   have:=congrArg List.length ih
   rwa [zad,List.length_range] at this
  obtain ⟨e,he⟩:∃ e,(TT (chG m w) n)[n]?=some e:=⟨_,zak (by omega)⟩;have ek:e.k=n:=by
   have:=congrArg (fun l=>l[n]?) ih;simp only [zao,he,Option.map_some,List.getElem?_range (show n < n+1 by omega),Option.some.injEq] at this;exact this
  show keys (dQ (chG m w) (TT (chG m w) n) n)=_;unfold dQ;rw [he];show keys (fol e _ 0 (((chG m w)[e.k]?).getD []))=_;rw [ek,ma (by omega),if_neg (by omega)];show keys (if n+1∈keys (TT (chG m w) n) then TT (chG m w) n else TT (chG m w) n++[⟨n+1,some (e.k,0),e.r++[0]⟩])=_;rw [if_neg (by rw [ih,List.mem_range]; omega),show ∀ a:Ent,keys (TT (chG m w) n++[a])=keys (TT (chG m w) n)++[a.k] from fun a=>zaC,ih,List.range_succ (n:=n+1)]
def Gk {m:Nat} {w:Option Nat} (hw:∀ k,w=some k->k < m) (h1:1<=m):keys (TT (chG m w) m)=List.range m:=by
 obtain ⟨n,rfl⟩:∃ n,m=n+1:=⟨m - 1,by omega⟩;have ih:=pY hw n (by omega);have len:(TT (chG (n+1) w) n).length=n+1:=by
  have:=congrArg List.length ih
  rwa [zad,List.length_range] at this
 obtain ⟨e,he⟩:∃ e,(TT (chG (n+1) w) n)[n]?=some e:=⟨_,zak (by omega)⟩;have ek:e.k=n:=by
  have:=congrArg (fun l=>l[n]?) ih;simp only [zao,he,Option.map_some,List.getElem?_range (show n < n+1 by omega),Option.some.injEq] at this;exact this
 show keys (dQ (chG (n+1) w) (TT (chG (n+1) w) n) n)=_;unfold dQ;rw [he];show keys (fol e _ 0 (((chG (n+1) w)[e.k]?).getD []))=_;rw [ek,ma (by omega),if_pos (by omega)];cases w with
 | none=>exact ih
 | some k =>
  show keys (if k∈keys (TT (chG (n+1) (some k)) n) then TT (chG (n+1) (some k)) n else _)=_;rw [if_pos (by rw [ih,List.mem_range]; exact hw k rfl)];exact ih
def ur {es:List Bool} {m:Nat} {w:Option Nat} (hw:∀ k,w=some k->k < m) (h1:1<=m) (h2:m<=1000) (le:es.length=m):Mx es (chG m w):=by
 have g:GOk (chG m w):=by
  refine ⟨by rw [fh]; exact h1,by rw [fh]; exact h2,fun r hr=>?_,fun r hr k hk=>?_⟩
  ·obtain ⟨i,_,rfl⟩:=zaz.mp hr;split <;> exact Nat.succ_le_succ (Nat.zero_le _)
  ·rw [fh];obtain ⟨i,hi,rfl⟩:=zaz.mp hr
   have:=List.mem_range.mp hi;split at hk
   ·exact hw k (zaH.mp hk).symm
   ·have:=zat (zaH.mp hk);omega
 have ka:=Gk hw h1;have up:(List.range m).Pairwise (·<=·):=(List.pairwise_lt_range).imp fun h=>Nat.le_of_lt h;refine ⟨g,by rw [le,fh],?_,fun l=>?_⟩
 ·rw [fh,ka];exact AH up (by rw [List.length_range]; omega)
 ·rw [fh];have sb:=pG (TT (chG m w) m) l;rw [ka] at sb;refine AH (up.sublist sb) ?_
  have:=sb.length_le;rw [List.length_range] at this;omega
def inc:D->D
 | .int z=>.list [.int (z+1)]
 | t=>t
def isL (e:Int):D->D
 | .int z=>.bool (decide (z=e))
 | _=>.bool false
def pf (n:Nat) (e:Int):∃ es:List Bool,(e9 0 n).map (isL e)=es.map PyData.bool/\es.length=n:=by
 refine ⟨(List.range n).map fun k:Nat=>decide ((0:Int)+(k:Int)=e),?_,by rw [zad,List.length_range]⟩;unfold e9;rw [zaR,zaR];rfl
def Bq {m:Nat} {w:Option Nat} (h1:1<=m):((e9 0 m).map inc).set (m - 1) (.list [goD w])=(chG m w).map aC:=by
 refine List.ext_getElem? fun i=>?_;by_cases hi:i < m
 ·rw [zao,ma hi];have er:((e9 0 m).map inc)[i]?=some (.list [.int ((i:Int)+1)]):=by
   unfold e9;rw [zao,zao,List.getElem?_range hi];show some (PyData.list [.int (0+(i:Int)+1)])=_;rw [Int.zero_add]
  by_cases e:i=m - 1
  ·subst e;rw [zaP (by rw [zad,de]; exact hi),if_pos rfl];rfl
  ·rw [zaO (Ne.symm e),er,if_neg e];rfl
 ·rw [List.getElem?_eq_none (by rw [zaV,zad,de]; omega),List.getElem?_eq_none (by rw [zad,fh]; omega)]
def lC {us:List D} {k:Nat} {z:Int} {t:D} (hz:z=(k:Int)) (h:k < us.length):e8 us z t=some (us.set k t):=by
 subst hz;unfold e8;rw [dX h];rfl
def u6 {p:D} {n:Nat} (hp:Pn n p) (hn:n<=900000) {Q:D × En->Prop} (h:∀ es G p',Mx es G->Pn (n+3) p'->Q (.tuple [.list (es.map .bool),.list (G.map aC)],[some p'])):W (cB [p]) Q:=by
 simp only [cB,ic,ws];refine cV hp (by omega) (by decide) (by decide) fun r p1 r0 r1 hp1=>?_;obtain ⟨m,hm⟩:∃ m:Nat,(100+r)=(m:Int):=⟨(100+r).toNat,by omega⟩;simp only [ws,hm,zaL];refine ⟨⟨by omega,by omega⟩,fH inc (szB (by rw [de]; omega)) (fun t ht=>?_) fun o=>?_⟩
 ·obtain ⟨k,hk⟩:=List.getElem?_of_mem ht;obtain ⟨hk',rfl⟩:=jR hk;simp only [ws,jf,inc]
 simp only [ws];refine ⟨⟨by decide,by omega⟩,?_⟩;refine cV hp1 (by omega) (by omega) (by omega) fun a p2 a0 a1 hp2=>?_;simp only [ws];refine cV hp2 (by omega) (by decide) (by decide) fun b p3 b0 b1 hp3=>?_;obtain ⟨w,ew,hw⟩:∃ w:Option Nat,atI [PyData.none,.int a] b=some (goD w)/\∀ k,w=some k->k < m:=by
  have hb:b=0\/b=1:=by omega
  rcases hb with rfl | rfl
  ·exact ⟨none,rfl,fun k z=>nomatch z⟩
  ·refine ⟨some a.toNat,?_,fun k z=>by cases z; omega⟩;show some (PyData.int a)=some (PyData.int ((a.toNat:Nat):Int));rw [Int.toNat_of_nonneg a0]
 have si:=lC (us:=(e9 0 m).map inc) (k:=m - 1) (z:=(m:Int) - 1) (t:=.list [goD w]) (by omega) (by rw [zad,de]; omega);rw [Bq (by omega)] at si;simp only [ws,ew,si,zaL];refine ⟨⟨by omega,by omega⟩,fH (isL ((m:Int) - 1)) (szB (by rw [de]; omega)) (fun t ht=>?_) fun o=>?_⟩
 ·obtain ⟨k,hk⟩:=List.getElem?_of_mem ht;obtain ⟨hk',rfl⟩:=jR hk;simp only [ws,je,isL]
 obtain ⟨es,ee,el⟩:=pf m ((m:Int) - 1);rw [ee];simp only [ws];exact h es _ p3 (ur hw (by omega) (by omega) el) (hp3.mono (by omega))
def oC (N s:Nat) (u:D):Prop:=∃ r:List (Option Nat),u=aC r/\r.length=s/\∀ k,some k∈r->k < N
def rN {N s:Nat}:∀ {gs:List D},(∀ u∈gs,oC N s u)->∃ G:Gr,gs=G.map aC/\∀ r∈G,r.length=s/\∀ k,some k∈r->k < N
 | [],_=>⟨[],rfl,fun _ z=>by cases z⟩
 | u :: gs,h=>by
  obtain ⟨G,rfl,hG⟩:=rN fun v hv=>h v (zaj _ hv);obtain ⟨r,rfl,h1,h2⟩:=h u zaq;refine ⟨r :: G,rfl,fun r' z=>?_⟩;rcases zay.mp z with rfl | z
  ·exact ⟨h1,h2⟩
  ·exact hG r' z
def nA {s:Nat} (h:s<=1000):qC (.list [.none]) (.int (s:Int))=some (aC (List.replicate s none)):=by
 show grd _ _=_;unfold grd;rw [if_pos ⟨by omega,by omega,szB (by simp; omega)⟩];show some (PyData.list _)=some (PyData.list _);congr 2;rw [zaL]
 induction s with
 | zero=>rfl
 | succ s ih =>
  rw [List.replicate_succ,List.flatten_cons,ih (by omega),List.replicate_succ,zar];rfl
def pd {N s j k:Nat} {r:List (Option Nat)} (h1:r.length=s) (h2:∀ k,some k∈r->k < N) (hk:k < N):oC N s (.list ((r.map goD).set j (.int (k:Int)))):=by
 refine ⟨r.set j (some k),?_,by rw [zaV]; exact h1,fun k' z=>?_⟩
 ·show PyData.list _=PyData.list _;rw [List.map_set];rfl
 ·rcases List.mem_or_eq_of_mem_set z with z | z
  ·exact h2 k' z
  ·cases z; exact hk
def ua {N s:Nat}:oC N s (aC (List.replicate s none)):=⟨_,rfl,zaN,fun k z=>by simp at z⟩
def AO {p:D} {n s:Nat} (hp:Pn n p) (hn:n<=900000) (s1:1<=s) (s2:s<=12) {Q:D × En->Prop} (h:∀ es G p',Mx es G->Pn (n+11) p'->Q (.tuple [.list (es.map .bool),.list (G.map aC)],[some p',none])):W (cv [p,.int (s:Int)]) Q:=by
 simp only [cv,ja,ws];refine cV hp (by omega) (by decide) (by decide) fun r p1 r0 r1 hp1=>?_;obtain ⟨m,hm⟩:∃ m:Nat,(2+r)=(m:Int):=⟨(2+r).toNat,by omega⟩;simp only [ws,hm,zaL];refine ⟨⟨by omega,by omega⟩,jX (fun i en=>∃ gs p o4 o5,en=[some p,some (.int (s:Int)),some (.int (m:Int)),some (.list gs),o4,o5]/\gs.length=i/\(∀ u∈gs,oC m s u)/\Pn (n+1+i) p) ⟨[],p1,_,_,rfl,rfl,(fun _ z=>by cases z),hp1⟩ ?_ ?_⟩
 ·rintro i t en ht ⟨gs,p,o4,o5,rfl,g1,g2,hp⟩;obtain ⟨hi,rfl⟩:=jR ht;simp only [ws,jK,nA (show s<=1000 by omega),aC];have hq:(0:Int) < (m:Int) - 1:=by omega
  have q0:0<=((i:Int)+1) % ((m:Int) - 1):=zba _ (by omega);have q1:((i:Int)+1) % ((m:Int) - 1) < (m:Int) - 1:=zbb _ hq;obtain ⟨v,hv⟩:∃ v:Nat,((i:Int)+1) % ((m:Int) - 1)=(v:Int):=⟨_,(Int.toNat_of_nonneg q0).symm⟩;simp only [ws,Int.zero_add,hv,hq];refine cV hp (by omega) (by omega) (by omega) fun a p2 a0 a1 hp2=>?_;obtain ⟨j,rfl⟩:=zaM a0;have si:=lC (us:=(List.replicate s none).map goD) (k:=j) (z:=(j:Int)) (t:=.int (v:Int)) rfl (by rw [zad,zaN]; omega);simp only [ws,si];refine ⟨cI (by omega),gs++[.list (((List.replicate s none).map goD).set j (.int (v:Int)))],p2,_,_,rfl,by rw [zae,g1]; rfl,fun u hu=>?_,hp2.mono (by omega)⟩;rcases zax.mp hu with hu | hu
  ·exact g2 u hu
  ·rw [zaH.mp hu];exact pd zaN (fun k z=>by simp at z) (by omega)
 ·rintro en ⟨gs,p,o4,o5,rfl,g1,g2,hp⟩;rw [de] at g1 hp;simp only [ws];refine Go ?_;simp only [ws];refine eW (eV (t:=.list gs) rfl ?_);simp only [ws];refine cV hp (by omega) (by omega) (by omega) fun a p2 a0 a1 hp2=>?_;obtain ⟨j,rfl⟩:=zaM a0;simp only [ws];refine ⟨_,_,gs,j,rfl,rfl,.inl rfl,dX (by omega),by omega,?_⟩;refine cV hp2 (by omega) (by omega) (by omega) fun b p3 b0 b1 hp3=>?_;obtain ⟨k,rfl⟩:=zaM b0;have jl:j < gs.length:=by omega
  obtain ⟨r',er,r1',r2'⟩:=g2 gs[j] (zaK jl);have eg:gs[j]?=some (.list (r'.map goD)):=by rw [zak jl,er]; rfl
  simp only [ws];refine ⟨_,_,r'.map goD,k,rfl,rfl,?_,dX (by rw [zad]; omega),?_⟩
  ·show (gs[j]?).bind _=_;rw [eg];rfl
  have ep:bg (.list gs) ([]++[j]) (.list ((r'.map goD).set k (.int ((m:Int) - 1))))=.list (gs.set j (.list ((r'.map goD).set k (.int ((m:Int) - 1))))):=by
   show PyData.list (gs.set j ((gs[j]?).elim .none fun c=>bg c [] _))=_;rw [eg];rfl
  have si:=lC (us:=gs.set j (.list ((r'.map goD).set k (.int ((m:Int) - 1))))) (k:=m - 1) (z:=(m:Int) - 1) (t:=aC (List.replicate s none)) (by omega) (by rw [zaV]; omega);simp only [ws,ep,nA (show s<=1000 by omega),si,zaL];refine ⟨⟨by omega,by omega⟩,fH (isL ((m:Int) - 1)) (szB (by rw [de]; omega)) (fun t ht=>?_) fun o=>?_⟩
  ·obtain ⟨k,hk⟩:=List.getElem?_of_mem ht;obtain ⟨hk',rfl⟩:=jR hk;simp only [ws,jL,isL]
  obtain ⟨es,ee,el⟩:=pf m ((m:Int) - 1);rw [ee];have all:∀ u∈(gs.set j (.list ((r'.map goD).set k (.int ((m:Int) - 1))))).set (m - 1) (aC (List.replicate s none)),oC m s u:=fun u hu=>by
   rcases List.mem_or_eq_of_mem_set hu with hu | rfl
   ·rcases List.mem_or_eq_of_mem_set hu with hu | rfl
    ·exact g2 u hu
    ·rw [show ((m:Int) - 1)=((m - 1:Nat):Int) by omega];exact pd r1' r2' (by omega)
   ·exact ua
  obtain ⟨G,eG,hG⟩:=rN all;have lG:G.length=m:=by
   have:=congrArg List.length eG;rw [zaV,zaV,zad] at this;omega
  rw [eG];simp only [ws];refine h es G p3 (nz ⟨by omega,by omega,fun r hr=>by rw [(hG r hr).1]; exact s2,fun r hr k hk=>by rw [lG]; exact (hG r hr).2 k hk⟩ (by omega) (by omega)) (hp3.mono (by omega))
def oB:∀ es:List Bool,aG (es.map PyData.bool)=true/\bT (es.map PyData.bool)=0
 | []=>⟨rfl,rfl⟩
 | b :: es=>by
  obtain ⟨h1,h2⟩:=oB es;rw [zar];exact ⟨by simp [aG,noDict,h1],by simp [bT,cS,h2]⟩
def pL:∀ r:List (Option Nat),aG (r.map goD)=true/\bT (r.map goD)=0
 | []=>⟨rfl,rfl⟩
 | w :: r=>by
  obtain ⟨h1,h2⟩:=pL r;rw [zar];cases w <;> exact ⟨by simp [aG,noDict,goD,h1],by simp [bT,cS,goD,h2]⟩
def pc:∀ G:Gr,aG (G.map aC)=true/\bT (G.map aC)<=1
 | []=>⟨rfl,Nat.zero_le _⟩
 | r :: G=>by
  obtain ⟨h1,h2⟩:=pc G;obtain ⟨h3,h4⟩:=pL r;rw [zar];exact ⟨by simp [aG,noDict,aC,h1,h3],by simp [bT,cS,aC,h4]; omega⟩
def Bc {t:D} (h1:noDict t=true) (h2:cS t<=60):neD t t=some (.bool false):=by
 show grd _ _=_;unfold grd;rw [if_pos ⟨h1,h1,h2⟩,iC t h1];rfl
def pA (es:List Bool) (G:Gr):neD (.tuple [.list (es.map .bool),.list (G.map aC)]) (.tuple [.list (es.map .bool),.list (G.map aC)])=some (.bool false):=by
 obtain ⟨h1,h2⟩:=oB es;obtain ⟨h3,h4⟩:=pc G;refine Bc ?_ ?_
 ·simp [noDict,aG,h1,h3]
 ·simp [cS,bT,h2];omega
def chg (R:MS):MS:=(aj (bh (b8 6 (pIx 6 (pIx 6 (cJ 6) (e1 lM (eC (.int 1)))) (eC (.int 0))) (eC (.int 1))))
 (aj (bh (b8 6 (pIx 6 (cJ 6) (e1 lM (eC (.int 1)))) (aO ah)))
 (aj (bh (b8 6 (pIx 6 (cJ 6) (eC (.int 1))) (eC (.int 0)))) R)))
def HK {R:MS} {x0 x1 x2 x3 x4 x5:Option D} {a:D} {b B:List D} (hb:b.length<=1000) (hB:B.length<=1000) {Q:Fl->Prop} (h:∀ t,W (R [x0,x1,x2,x3,x4,x5,some t]) Q):W (chg R [x0,x1,x2,x3,x4,x5,some (.tuple [a,.list (.list b :: B)])]) Q:=by
 unfold chg;simp only [ws];refine fI (eW (eW (eV (t:=.tuple [a,.list (.list b :: B)]) rfl ?_)));simp only [ws];refine ⟨_,_,[a,.list (.list b :: B)],1,rfl,rfl,.inr rfl,rfl,by show 1 < 2; decide,_,_,.list b :: B,0,rfl,rfl,.inl rfl,dX (i:=0) (Nat.succ_pos _),Nat.succ_pos _,_,b,rfl,rfl,?_⟩
 try simp only [ws]
 refine ⟨cI (by omega),?_⟩;refine fI (eW (eV (t:=.tuple [a,.list (.list (b++[.int 1]) :: B)]) rfl ?_));simp only [ws];refine ⟨_,_,[a,.list (.list (b++[.int 1]) :: B)],1,rfl,rfl,.inr rfl,rfl,by show 1 < 2; decide,_,.list (b++[.int 1]) :: B,rfl,rfl,?_⟩;simp only [ws];refine ⟨cI (by simp; omega),?_⟩;refine fI (eW (eV (t:=.tuple [a,.list ((.list (b++[.int 1]) :: B)++[.list []])]) rfl ?_));simp only [ws];refine ⟨_,_,[a,.list ((.list (b++[.int 1]) :: B)++[.list []])],1,rfl,rfl,.inr rfl,rfl,by show 1 < 2; decide,_,(.list (b++[.int 1]) :: B)++[.list []],rfl,rfl,?_⟩;simp only [ws];exact ⟨cI (by simp; omega),h _⟩
def HJ {R:MS} {x0 x1 x2 x3 x4 x5:Option D} {a:D} {A b B:List D} (hA:A.length<=1000) (hb:b.length<=1000) (hB:B.length<=1000) {Q:Fl->Prop} (h:∀ t,W (R [x0,x1,x2,x3,x4,x5,some t]) Q):W (chg R [x0,x1,x2,x3,x4,x5,some (.tuple [a,.list A,.list (.list b :: B)])]) Q:=by
 unfold chg;simp only [ws];refine fI (eW (eW (eV (t:=.tuple [a,.list A,.list (.list b :: B)]) rfl ?_)));simp only [ws];refine ⟨_,_,[a,.list A,.list (.list b :: B)],2,rfl,rfl,.inr rfl,rfl,by show 2 < 3; decide,_,_,.list b :: B,0,rfl,rfl,.inl rfl,dX (i:=0) (Nat.succ_pos _),Nat.succ_pos _,_,b,rfl,rfl,?_⟩
 try simp only [ws]
 refine ⟨cI (by omega),?_⟩;refine fI (eW (eV (t:=.tuple [a,.list A,.list (.list (b++[.int 1]) :: B)]) rfl ?_));simp only [ws];refine ⟨_,_,[a,.list A,.list (.list (b++[.int 1]) :: B)],2,rfl,rfl,.inr rfl,rfl,by show 2 < 3; decide,_,.list (b++[.int 1]) :: B,rfl,rfl,?_⟩;simp only [ws];refine ⟨cI (by simp; omega),?_⟩;refine fI (eW (eV (t:=.tuple [a,.list A,.list ((.list (b++[.int 1]) :: B)++[.list []])]) rfl ?_));simp only [ws];refine ⟨_,_,[a,.list A,.list ((.list (b++[.int 1]) :: B)++[.list []])],1,rfl,rfl,.inr rfl,rfl,by show 1 < 3; decide,_,A,rfl,rfl,?_⟩
 try simp only [ws]
 exact ⟨cI (by omega),h _⟩
def qc {N:Nat} {T:List Ent} (t:TOk N T) (hN:N<=1000) {n:Nat} (h1:1<=n) (h2:n<=1000):∃ b B:List D,LS T n=.list b :: B/\b.length<=1000/\B.length<=1000:=by
 obtain ⟨m,rfl⟩:∃ m,n=m+1:=⟨n - 1,by omega⟩;unfold LS;rw [List.range_succ_eq_map,zar];refine ⟨_,_,rfl,?_,?_⟩
 ·rw [zad,(bP _).length_eq,zad]
  have:=t.len
  have:(lay T 0).length<=T.length:=by
   unfold lay;rw [zad];exact List.length_filter_le ..
  omega
 ·rw [zad,zad,List.length_range];omega
def Gj {R:MS} {x0 x1 x2 x3 x4 x5:Option D} {N:Nat} {T:List Ent} {es:List Bool} (t:TOk N T) (hN:N<=1000) {Q:Fl->Prop} (h:∀ t,W (R [x0,x1,x2,x3,x4,x5,some t]) Q):W (chg R [x0,x1,x2,x3,x4,x5,some (shD es T)]) Q:=by
 have tl:=t.len;have hg:hgt T<=1000:=jp fun e he=>by
  obtain ⟨j,hj⟩:=List.getElem?_of_mem he
  have:=t.rl j e hj
  have:=(zah.mp hj).1;omega
 unfold shD;cases hf:T.find? (isE es) with
 | none =>
  have hg1:1<=hgt T:=by
   have:=dh (zaX t.h0);omega
  obtain ⟨b,B,e,hb,hB⟩:=qc t hN hg1 hg;simp only [e];exact HK hb hB h
 | some e =>
  have hm:=dh (List.mem_of_find?_eq_some hf);obtain ⟨b,B,e',hb,hB⟩:=qc t hN (n:=e.r.length+1) (by omega) (by omega);simp only [e'];exact HJ (A:=e.r.map iD) (by rw [zad]; omega) hb hB h
def jP {es:List Bool} {G:Gr} (M:Mx es G) {x0 x1 x2 x3 x5 x6:Option D} {Q:Fl->Prop} (h:∀ o5 o6,Q (.nx [x0,x1,x2,x3,some (.tuple [.list (es.map .bool),.list (G.map aC)]),o5,o6])):W (jI [x0,x1,x2,x3,some (.tuple [.list (es.map .bool),.list (G.map aC)]),x5,x6]) Q:=by
 have gn:=M.g.n;have el:gI [.list (es.map PyData.bool)]=some (.list (es.map .bool)):=rfl;have t:=eX M.g G.length;have sh:=tZ M.g M.le M.cl;have du:=Ge M.g M.le M.ck;have sm:Sm 6 (shD es (TT G G.length)):=AN t gn;have cg:∀ {x5:Option D} {R:MS} {Q:Fl->Prop},(∀ t,W (R [x0,x1,x2,x3,some (.tuple [.list (es.map .bool),.list (G.map aC)]),x5,some t]) Q)->W (chg R [x0,x1,x2,x3,some (.tuple [.list (es.map .bool),.list (G.map aC)]),x5,some (shD es (TT G G.length))]) Q:=fun h=>Gj t gn h;generalize shD es (TT G G.length)=X at sh du sm cg;have eb:jI=(aj (aq 5 (cR (ad (eN gI (ad (e2 ixA (aa 4) (eC (.int 0))) ah)) (ad (eLC true (cE (e2 ixA (aa 4) (eC (.int 1)))) (gN 0) cY oE [none]) ah))))
  (aj (aq 6 (am cZ (ad (aa 5) ah)))
  (aj (sIf (bOr (jC (tV (am (aT 6) (ad (aa 6) (ad (am c9 (ad (aa 4) ah)) ah))))) (tV (e2 neD (aa 5) (aa 4)))) (aI (eC (.bool false))) aW)
  (chg (sIf (tV (e2 neD (aa 5) (aa 4))) (aI (eC (.bool false))) aW))))):=rfl
 rw [eb];simp only [ws,el];refine fH (fun t=>t) (szB (by rw [zad]; omega)) (fun u hu=>?_) fun o=>?_
 ·obtain ⟨r,hr,rfl⟩:=zaz.mp hu;have e2:gI [aC r]=some (aC r):=rfl;simp only [ws,oE,e2]
 rw [List.map_id'];simp only [ws];refine W.use sh ?_;rintro _ rfl;simp only [ws];refine W.use du ?_;rintro _ rfl;simp only [ws];refine W.use sm ?_;rintro _ rfl;simp only [ws,pA];refine cg fun u=>?_;simp only [ws,pA];exact h _ _
def mm (es:List Bool) (G:Gr):D:=.tuple [.list (es.map .bool),.list (G.map aC)]
def sP {e1 e2:List Bool} {G1 G2:Gr} (M1:Mx e1 G1) (M2:Mx e2 G2) {x0 x1 x2:Option D}:W ((aj (cC (cE (L2.e2 jD (aa 3) (aa 3))) (gN 4) jI) (aI (eC (.bool true)))) [x0,x1,x2,some (.list [mm e1 G1,mm e2 G2]),none,none,none]) (kFn [0] fun r=>∃ o,r=(.bool true,o)):=by
 have ea:jD (.list [mm e1 G1,mm e2 G2]) (.list [mm e1 G1,mm e2 G2])=some (.list [mm e1 G1,mm e2 G2,mm e1 G1,mm e2 G2]):=by
  show (if [mm e1 G1,mm e2 G2].length+[mm e1 G1,mm e2 G2].length<=sizeLine then _ else none)=_;rw [if_pos (szB (by show 4<=_; decide))];rfl
 simp only [ws,ea];refine jP M1 fun o5 o6=>?_;simp only [ws];refine jP M2 fun o5 o6=>?_;simp only [ws];refine jP M1 fun o5 o6=>?_;simp only [ws];refine jP M2 fun o5 o6=>?_;simp only [ws];exact ⟨_,rfl⟩
def uw:EX rj:=by
 intro ns hn
 suffices W (rj [.list (ns.map .int)]) (fun r=>∃ o,r=(.bool true,o)) by
  obtain ⟨_,e,o,rfl⟩:=this.ex;exact ⟨o,e⟩
 have hp0:Pn 0 (penD ns 0 0):=⟨ns,0,0,rfl,by decide,by decide,by decide⟩;have hq0:Pn 31 (penD ns 31 0):=⟨ns,31,0,rfl,by decide,by decide,by decide⟩;have tail:∀ {e1:List Bool} {G1:Gr} {x1 x2:Option D},Mx e1 G1->W ((aj (aq 1 (am bK (ad (aa 0) (ad (eC (.int 31)) ah))))
  (aj (bh (bG 3 (am bd (az 1 (ad (am bq (az 1 ah)) (ad (eC (.int 6)) ah))))))
  (aj (sIf (tV (L2.e2 eqD (am ak (az 1 (ad (eC (.int 3)) ah))) (eC (.int 0)))) (bY 3 (eC (.int 1)) (am cv (az 1 (ad (L2.e2 aQ (eC (.int 1)) (am ak (az 1 (ad (eC (.int 3)) ah)))) ah)))) aW)
  (aj (cC (cE (L2.e2 jD (aa 3) (aa 3))) (gN 4) jI)
  (aI (eC (.bool true))))))) [some (.list (ns.map .int)),x1,x2,some (.list [mm e1 G1]),none,none,none]) (kFn [0] fun r=>∃ o,r=(.bool true,o)):=fun {e1 G1 x1 x2} M1=>by
  simp only [ws];refine W.of (show bK [.list (ns.map .int),.int 31]=some (penD ns 31 0,[none,none]) from rfl) ?_;simp only [ws];refine p9 hq0 (by decide) fun s p2 s1 s2 hp2=>?_;simp only [ws];refine tI hp2 (by decide) (by decide) (by decide) s1 s2 fun e2 G2 p3 M2 hp3=>?_;simp only [ws];refine cV hp3 (by decide) (by decide) (by decide) fun a p4 a0 a1 hp4=>?_;by_cases c:a=0
  ·simp only [ws,c];refine cV hp4 (by decide) (by decide) (by decide) fun b p5 b0 b1 hp5=>?_;obtain ⟨q,hq⟩:∃ q:Nat,(1+b)=(q:Int):=⟨(1+b).toNat,by omega⟩;simp only [ws,hq];refine AO hp5 (by decide) (by omega) (by omega) fun e3 G3 p6 M3 hp6=>?_;have si:e8 [mm e1 G1,mm e2 G2] 1 (mm e3 G3)=some [mm e1 G1,mm e3 G3]:=rfl;have f:=sP M1 M3 (x0:=some (.list (ns.map .int))) (x1:=some p6) (x2:=x2);simp only [ws,mm,si] at f ⊢;exact f
  ·have f:=sP M1 M2 (x0:=some (.list (ns.map .int))) (x1:=some p4) (x2:=x2);simp only [ws,c,mm] at f ⊢;exact f
 simp only [ws,rj,vg];refine W.of (show bK [.list (ns.map .int),.int 0]=some (penD ns 0 0,[none,none]) from rfl) ?_;simp only [ws];refine cV hp0 (by decide) (by decide) (by decide) fun z p1 z0 z1 hp1=>?_;simp only [ws];refine p9 hp1 (by decide) fun s p2 s1 s2 hp2=>?_;simp only [ws];have mo:∃ q mo:Int,gp [.bool (decide (z=9))]=some (.int q)/\atI [PyData.int 9,.int 30] q=some (.int mo)/\1<=mo/\mo<=40:=by
  by_cases c:z=9
  ·rw [zaB c]; exact ⟨1,30,rfl,rfl,by decide,by decide⟩
  ·rw [zaA c]; exact ⟨0,9,rfl,rfl,by decide,by decide⟩
 obtain ⟨q,mo,eq,em,m1,m2⟩:=mo;simp only [ws,eq,em];refine tI hp2 (by decide) m1 m2 s1 s2 fun e1 G1 p3 M1 hp3=>?_;simp only [ws];by_cases c:z=10
 ·simp only [ws,c];refine u6 hp3 (by decide) fun e2 G2 p4 M2 hp4=>?_;have f:=tail M2 (x1:=some p4) (x2:=some (.int 10));simp only [ws,mm] at f ⊢;exact f
 ·have f:=tail M1 (x1:=some p3) (x2:=some (.int z));simp only [ws,c,mm] at f ⊢;exact f
end W32
set_option maxHeartbeats 4000000
namespace W32
open PySem L2
def lR {α β:Type} {us:List α} {x0:β} (h:us.length=[x0].length):∃ a0,us=[a0]:=by
 cases us with
 | nil=>cases h
 | cons a0 r=>exact ⟨a0,by rw [za7.mp (show r.length=0 from Nat.succ.inj h)]⟩
def dR {α β:Type} {us:List α} {x0 x1:β} (h:us.length=[x0,x1].length):∃ a0 a1,us=[a0,a1]:=by
 cases us with
 | nil=>cases h
 | cons a0 r=>obtain ⟨a1,rfl⟩:=lR (us:=r) (x0:=x1) (Nat.succ.inj h); exact ⟨a0,a1,rfl⟩
def EU {α β:Type} {us:List α} {x0 x1 x2:β} (h:us.length=[x0,x1,x2].length):∃ a0 a1 a2,us=[a0,a1,a2]:=by
 cases us with
 | nil=>cases h
 | cons a0 r=>obtain ⟨a1,a2,rfl⟩:=dR (us:=r) (x0:=x1) (x1:=x2) (Nat.succ.inj h); exact ⟨a0,a1,a2,rfl⟩
def Hw {α β:Type} {us:List α} {x0 x1 x2 x3:β} (h:us.length=[x0,x1,x2,x3].length):∃ a0 a1 a2 a3,us=[a0,a1,a2,a3]:=by
 cases us with
 | nil=>cases h
 | cons a0 r=>obtain ⟨a1,a2,a3,rfl⟩:=EU (us:=r) (x0:=x1) (x1:=x2) (x2:=x3) (Nat.succ.inj h); exact ⟨a0,a1,a2,a3,rfl⟩
def all_mk {l:PySem.W.OpenLaw} {w:World} {K:PySem.W.Frag} {h:Heap} {mg:Str->Option Value} {fa f0 f1 f2 f3 f4 f5 f6 f7 f8 f9 f10 f11 f12 f13 f14 f15:Addr}  (X:K.In h) (G:h.Ns mainGlobals mg) (hfa:mg "law"=some (.ref fa))
  (d0:Df K "came_from" iT f0)
  (d1:Df K "row_to" mj f1)
  (d2:Df K "first_row" iS f2)
  (d3:Df K "layers_of" fX f3)
  (d4:Df K "shortest" jF f4)
  (d5:Df K "_law_pen" jH f5)
  (d6:Df K "_law_mixed" h9 f6)
  (d7:Df K "_law_take" iU f7)
  (d8:Df K "_law_signs" hV f8)
  (d9:Df K "_law_goal" iV f9)
  (d10:Df K "_law_machine" cx f10)
  (d11:Df K "_law_ring" fZ f11)
  (d12:Df K "_law_same" fY f12)
  (d13:Df K "_law_chain" dH f13)
  (d14:Df K "_law_due" eB f14)
  (d15:Df K "law" jG f15)
  (z0:PySem.W.nsIn K mainGlobals "abs"=some none)
  (z1:PySem.W.nsIn K mainGlobals "all"=some none)
  (z2:PySem.W.nsIn K mainGlobals "bool"=some none)
  (z3:PySem.W.nsIn K mainGlobals "enumerate"=some none)
  (z4:PySem.W.nsIn K mainGlobals "int"=some none)
  (z5:PySem.W.nsIn K mainGlobals "isinstance"=some none)
  (z6:PySem.W.nsIn K mainGlobals "len"=some none)
  (z7:PySem.W.nsIn K mainGlobals "list"=some none)
  (z8:PySem.W.nsIn K mainGlobals "max"=some none)
  (z9:PySem.W.nsIn K mainGlobals "range"=some none)
  (z10:PySem.W.nsIn K mainGlobals "repr"=some none)
  (z11:PySem.W.nsIn K mainGlobals "reversed"=some none)
  (z12:PySem.W.nsIn K mainGlobals "sorted"=some none)
  (z13:PySem.W.nsIn K mainGlobals "str"=some none)
  (z14:PySem.W.nsIn K mainGlobals "tuple"=some none)
  (z15:PySem.W.nsIn K mainGlobals "zip"=some none) :
  ∃ fd:FuncData,(∀ (s:Shared) (v:Value),BindsTo s fd ⟨[v],[]⟩ [("_law_script",v)])/\∀ base:Heap,K.In base->base.Ns mainGlobals mg->FnOk l.prog w K mg base CX0 7 fa fd ["_law_script"] (ky K):=by
 have e:=hfa.symm.trans (PySem.W.mg_of X G d15.a);cases e;have T:Bl mg:=⟨za8 X G z0,za8 X G z1,za8 X G z2,za8 X G z3,za8 X G z4,za8 X G z5,za8 X G z6,za8 X G z7,za8 X G z8,za8 X G z9,za8 X G z10,za8 X G z11,za8 X G z12,za8 X G z13,za8 X G z14,za8 X G z15⟩;obtain ⟨oc,od,kV,dc,pm,an,cd,ct,sl,ll,lc⟩:=d15.l;have FL:=nV (st:=jG) ll lc d15.k;refine ⟨PySem.W.fnOf "law" "law" (dk jG) (ca jG) (av jG) .none kV dc pm an cd ct,fun s v=>.of_eq rfl,fun base _ _=>?_⟩;have g0:Kn l.prog w K mg base 1 "came_from" ["goes", "first"] (spF K [0,0] 1 bV):=d0.kn X G (fun _ _ _ _ _ _ us hl=>by obtain ⟨a0,a1,rfl⟩:=dR hl; rfl) fun _ F=>oK (k:=0) T     F;have g1:Kn l.prog w K mg base 1 "row_to" ["came", "stand"] (spF K [0,0] 1 gg):=d1.kn X G (fun _ _ _ _ _ _ us hl=>by obtain ⟨a0,a1,rfl⟩:=dR hl; rfl) fun _ F=>uk (k:=0) T     F;have g2:Kn l.prog w K mg base 2 "first_row" ["machine", "stand"] (spF K [0,0] 1 dz):=d2.kn X G (fun _ _ _ _ _ _ us hl=>by obtain ⟨a0,a1,rfl⟩:=dR hl; rfl) fun _ F=>oJ (k:=1) T  (g0.mono (by decide)) (g1.mono (by decide))   F;have g3:Kn l.prog w K mg base 1 "layers_of" ["came"] (spF K [1] 3 dy):=d3.kn X G (fun _ _ _ _ _ _ us hl=>by obtain ⟨a0,rfl⟩:=lR hl; rfl) fun _ F=>oI (k:=0) T     F;have g4:Kn l.prog w K mg base 3 "shortest" ["machine"] (spF K [0] 3 cZ):=d4.kn X G (fun _ _ _ _ _ _ us hl=>by obtain ⟨a0,rfl⟩:=lR hl; rfl) fun _ F=>qz (k:=2) T  (g3.mono (by decide)) (g2.mono (by decide)) (g0.mono (by decide))   F;have g5:Kn l.prog w K mg base 1 "_law_pen" ["_law_script", "_law_first"] (spF K [0,0] 1 bK):=d5.kn X G (fun _ _ _ _ _ _ us hl=>by obtain ⟨a0,a1,rfl⟩:=dR hl; rfl) fun _ F=>qA (k:=0) T     F;have g6:Kn l.prog w K mg base 1 "_law_mixed" ["_law_cell", "_law_k"] (spF K [0,0] 3 bL):=d6.kn X G (fun _ _ _ _ _ _ us hl=>by obtain ⟨a0,a1,rfl⟩:=dR hl; rfl) fun _ F=>nv (k:=0) T     F;have g7:Kn l.prog w K mg base 2 "_law_take" ["_law_pen_here", "_law_most"] (spF K [1,0] 0 ak):=d7.kn X G (fun _ _ _ _ _ _ us hl=>by obtain ⟨a0,a1,rfl⟩:=dR hl; rfl) fun _ F=>oM (k:=1) T  (g6.mono (by decide))   F;have g8:Kn l.prog w K mg base 3 "_law_signs" ["_law_pen_here"] (spF K [1] 3 bq):=d8.kn X G (fun _ _ _ _ _ _ us hl=>by obtain ⟨a0,rfl⟩:=lR hl; rfl) fun _ F=>nu (k:=2) T  (g7.mono (by decide))   F;have g9:Kn l.prog w K mg base 3 "_law_goal" ["_law_pen_here", "_law_stand", "_law_stands", "_law_way"] (spF K [1,0,0,0] 0 bx):=d9.kn X G (fun _ _ _ _ _ _ us hl=>by obtain ⟨a0,a1,a2,a3,rfl⟩:=Hw hl; rfl) fun _ F=>oO (k:=2) T  (g7.mono (by decide))   F;have g10:Kn l.prog w K mg base 4 "_law_machine" ["_law_pen_here", "_law_signs_here", "_law_most"] (spF K [1,0,0] 0 bd):=d10.kn X G (fun _ _ _ _ _ _ us hl=>by obtain ⟨a0,a1,a2,rfl⟩:=EU hl; rfl) fun _ F=>lJ (k:=3) T  (g7.mono (by decide)) (g9.mono (by decide))   F;have g11:Kn l.prog w K mg base 3 "_law_ring" ["_law_pen_here", "_law_signs_here"] (spF K [1,0] 0 cv):=d11.kn X G (fun _ _ _ _ _ _ us hl=>by obtain ⟨a0,a1,rfl⟩:=dR hl; rfl) fun _ F=>oN (k:=2) T  (g7.mono (by decide))   F;have g12r0:Kn l.prog w K mg base 0 "_law_same" ["_law_got", "_law_due_here"] (spF K [0,0] 3 (aT 0)):=d12.none X G (fun _ _ _ _ _ _ us hl=>by obtain ⟨a0,a1,rfl⟩:=dR hl; rfl);have g12r1:Kn l.prog w K mg base 1 "_law_same" ["_law_got", "_law_due_here"] (spF K [0,0] 3 (aT 1)):=d12.kn X G (fun _ _ _ _ _ _ us hl=>by obtain ⟨a0,a1,rfl⟩:=dR hl; rfl) fun _ F=>cz (k:=0) T  g12r0 F;have g12r2:Kn l.prog w K mg base 2 "_law_same" ["_law_got", "_law_due_here"] (spF K [0,0] 3 (aT 2)):=d12.kn X G (fun _ _ _ _ _ _ us hl=>by obtain ⟨a0,a1,rfl⟩:=dR hl; rfl) fun _ F=>cz (k:=1) T  g12r1 F;have g12r3:Kn l.prog w K mg base 3 "_law_same" ["_law_got", "_law_due_here"] (spF K [0,0] 3 (aT 3)):=d12.kn X G (fun _ _ _ _ _ _ us hl=>by obtain ⟨a0,a1,rfl⟩:=dR hl; rfl) fun _ F=>cz (k:=2) T  g12r2 F;have g12r4:Kn l.prog w K mg base 4 "_law_same" ["_law_got", "_law_due_here"] (spF K [0,0] 3 (aT 4)):=d12.kn X G (fun _ _ _ _ _ _ us hl=>by obtain ⟨a0,a1,rfl⟩:=dR hl; rfl) fun _ F=>cz (k:=3) T  g12r3 F;have g12r5:Kn l.prog w K mg base 5 "_law_same" ["_law_got", "_law_due_here"] (spF K [0,0] 3 (aT 5)):=d12.kn X G (fun _ _ _ _ _ _ us hl=>by obtain ⟨a0,a1,rfl⟩:=dR hl; rfl) fun _ F=>cz (k:=4) T  g12r4 F;have g12:Kn l.prog w K mg base 6 "_law_same" ["_law_got", "_law_due_here"] (spF K [0,0] 3 (aT 6)):=d12.kn X G (fun _ _ _ _ _ _ us hl=>by obtain ⟨a0,a1,rfl⟩:=dR hl; rfl) fun _ F=>cz (k:=5) T  g12r5 F;have g13:Kn l.prog w K mg base 3 "_law_chain" ["_law_pen_here"] (spF K [1] 0 cB):=d13.kn X G (fun _ _ _ _ _ _ us hl=>by obtain ⟨a0,rfl⟩:=lR hl; rfl) fun _ F=>nw (k:=2) T  (g7.mono (by decide))   F;have g14:Kn l.prog w K mg base 1 "_law_due" ["_law_machine_here"] (spF K [0] 0 c9):=d14.kn X G (fun _ _ _ _ _ _ us hl=>by obtain ⟨a0,rfl⟩:=lR hl; rfl) fun _ F=>qB (k:=0) T     F;exact (GJ (k:=6) T  (g5.mono (by decide)) (g7.mono (by decide)) (g10.mono (by decide)) (g11.mono (by decide)) (g4.mono (by decide)) (g8.mono (by decide)) (g13.mono (by decide)) (g12.mono (by decide)) (g14.mono (by decide))   FL).imp fun vs H Q E h=>EW uw h
def walk {l:PySem.W.OpenLaw} {q:Program} {loose:List Str} {XP:(Str->Option Value)->Heap->Prop} {YP:World->Heap->Prop} {d:DefRec} {K:Params->PySem.W.Frag} (hn:l.most=some 63) (hdf:d.params.defaults=[]) (hq:PyProof.Rows.importsNone q=true)
  (hY:∀ (w:World) (h:Heap),YP w h->(K w.params).In h)
  (F:∀ (w:World) (mg:Str->Option Value) (fa:Addr) (h:Heap),(K w.params).In h->h.Ns mainGlobals mg->mg d.name=some (.ref fa) ->
   ∃ fd:FuncData,(∀ (s:Shared) (u:Value),BindsTo s fd ⟨[u],[]⟩ [("_law_script",u)])/\∀ base:Heap,(K w.params).In base->base.Ns mainGlobals mg->FnOk l.prog w (K w.params) mg base CX0 7 fa fd ["_law_script"] (ky (K w.params))) :
  PySem.W.WalkO q loose XP YP l.row.toRowW d [] (fun f vs=>PySem.call f vs) :=
 L2.walk_of (n:=63) (k:=7) (x:="_law_script") (CX:=fun _=>CX0) (sp:=fun w=>ky (K w.params)) hn (by decide) hdf ⟨rfl,by decide,by decide,rfl⟩ hq hY F (fun _ _ a ns hl hO hS=>⟨a,ns,rfl,hS,hO,hl,fun _=>rfl⟩) fun _ _ _ _ _ z=>z
end W32
open PySem PySem.W PyProof.Rows
set_option maxRecDepth 100000 in
set_option maxHeartbeats 0 in
theorem PySem.Challenge.cw_wordrules_k32_shortest_told_holds : PySem.Challenge.rw_wordrules_k32_shortest_told.Holds := by
 w_on; o_law; k_head; (case hw=>w_witness2)
 k_fill
 refine W32.walk (l:=PySem.Challenge.rw_wordrules_k32_shortest_told) rfl rfl rfl (fun w h Y=>PySem.W.kIn_of Y) ?F
 case F =>
  intro w mg fa h KX G hmg;refine' W32.all_mk KX G hmg (.mk' ?_ ?_ ?_ ?_) (.mk' ?_ ?_ ?_ ?_) (.mk' ?_ ?_ ?_ ?_) (.mk' ?_ ?_ ?_ ?_) (.mk' ?_ ?_ ?_ ?_) (.mk' ?_ ?_ ?_ ?_) (.mk' ?_ ?_ ?_ ?_) (.mk' ?_ ?_ ?_ ?_) (.mk' ?_ ?_ ?_ ?_) (.mk' ?_ ?_ ?_ ?_) (.mk' ?_ ?_ ?_ ?_) (.mk' ?_ ?_ ?_ ?_) (.mk' ?_ ?_ ?_ ?_) (.mk' ?_ ?_ ?_ ?_) (.mk' ?_ ?_ ?_ ?_) (.mk' ?_ ?_ ?_ ?_) ?_ ?_ ?_ ?_ ?_ ?_ ?_ ?_ ?_ ?_ ?_ ?_ ?_ ?_ ?_ ?_
  all_goals (try k_is)
