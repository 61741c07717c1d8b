import PyProof.Rows.All
import Wide.All
import OpenK.AllK
import Wide.FinOn
import Lean
import PyProof.EqAt
import PyProof.EqKinds
import PyProof.TupleCall
import PyProof.NeKinds
import PyProof.ConsumeWalk
import PyProof.ZipIter
import PyProof.EnumMake
import PyProof.EnumFor
import PyProof.StrWalks
import PyProof.ListStr
import PyProof.SliceStr2
import PyProof.StrBlockI
import PyProof.Rows.StrWeight2
import PyProof.Rows.ZipGen
import PyProof.Rows.StrIndexOr
import PyProof.Draws
import PyProof.RaisesStr
import PyProof.Rows.StrCountLaw
import PyProof.SumWalk
import PyProof.ReprRoads
import PyProof.ReprLen
import PyProof.CallFns
import PyProof.SumAny
import PyProof.SumAnyB
import PySem.Challenge.RW_wordrules_k12_met_and_alive
set_option Elab.async false
set_option linter.all false
set_option maxRecDepth 100000
section
open PySem PyProof.Rows
def zaa:=@Option.bind_eq_some_iff
def zab:=@Option.map_eq_some_iff
def zac:=@List.length_cons
def zad:=@List.length_map
def zae:=@List.length_append
def zaf:=@Heap.get?_push_of_some
def zag:=@Nat.lt_of_lt_of_le
def zah:=@List.getElem?_eq_some_iff
def zai:=@List.size_toArray
def zaj:=@List.mem_cons_of_mem
def zak:=@List.getElem?_eq_getElem
def zal:=@Heap.lt_size
def zam:=@wpAny_bind
def zan:=@Heap.get?_push_size
def zao:=@List.getElem?_map
def zaq:=@List.mem_cons_self
def zar:=@List.map_cons
def zas:=@List.lookup_cons
def zat:=@Option.some.inj
def zau:=@Nat.le_trans
def zav:=@Nat.le_refl
def zaw:=@Nat.ne_of_lt
def zax:=@List.mem_append
def zay:=@List.mem_cons
def zaz:=@List.mem_map
def zaA:=@decide_eq_false
def zaB:=@decide_eq_true
def zaC:=@List.map_append
def zaD:=@List.append_assoc
def zaF:=@List.length_drop
def zaG:=@List.mem_singleton
def zaH:=@Nat.lt_irrefl
def zaJ:=@Int.toNat_natCast
def zaK:=@Int.eq_ofNat_of_zero_le
def zaL:=@List.length_replicate
def zaM:=@List.getElem?_set_ne
def zaN:=@List.getElem?_set_self
def zaO:=@List.take_length
def zaP:=@List.map_map
def zaQ:=@List.getElem?_append_left
def zaR:=@wpAny_pure
def zaS:=@PySem.mem_of_lookup
def zaT:=@List.length_set
def zaU:=@Nat.le_of_lt
def zaV:=@List.mem_of_getElem?
def zaW:=@Array.length_toList
def zaZ:=@Prod.mk.injEq
def za6:=@PySem.W.mg_none_of
def za8:=@Int.emod_nonneg
def za9:=@Int.emod_lt_of_pos
def zba:=@List.nodup_cons
def zbb:=@List.nodup_append
end
namespace PySem.W.Fast
def tw10134308612269014470:=0
def tw10211618999696472438:=0
def tw10303990027191861317:=0
def tw103089437872917928:=0
def tw10335971589913284543:=0
def tw10462326734459374931:=0
def tw10581493227559700554:=0
def tw10765719863311206134:=0
def tw11081208191564206390:=0
def tw11127656562129382611:=0
def tw11388824962096995197:=0
def tw11557538283819144054:=0
def tw11564232347900950425:=0
def tw11606877533726434021:=0
def tw11631112683662407007:=0
def tw11644029175406166823:=0
def tw11761714638933730318:=0
def tw1190362326765762105:=0
def tw1194652967675359853:=0
def tw12004335044558201892:=0
def tw12205080642887566129:=0
def tw12211984875432171270:=0
def tw1241720103140271280:=0
def tw12828452239585175687:=0
def tw12962445683369774784:=0
def tw13085635279611730712:=0
def tw13321699828273123792:=0
def tw13560180412854908534:=0
def tw13655883979857361969:=0
def tw13888433915388238528:=0
def tw13960848125096794057:=0
def tw14180653683176086198:=0
def tw14239313052194940081:=0
def tw14393146905019450798:=0
def tw14612144217375604498:=0
def tw14813489065685398059:=0
def tw14813857915975698197:=0
def tw14933894023087874360:=0
def tw15034906825514924760:=0
def tw15578177893627461274:=0
def tw15609473545226319676:=0
def tw15820286903496330089:=0
def tw16403310853526861339:=0
def tw16590881727445943607:=0
def tw16863201856434727412:=0
def tw16891738512920978214:=0
def tw17369011339324348634:=0
def tw17379911616068352232:=0
def tw17642158194008325595:=0
def tw17820174099523514705:=0
def tw17975794028228173552:=0
def tw1831386421553499923:=0
def tw2123166085647356723:=0
def tw236588141692120437:=0
def tw2869225596612469201:=0
def tw2893337367338343708:=0
def tw3168301743032539069:=0
def tw3560618021840313597:=0
def tw3607453970081086613:=0
def tw3800934532869378557:=0
def tw3839649394255285235:=0
def tw438665526524213936:=0
def tw4415355161120723961:=0
def tw4443816244451994376:=0
def tw4577500317326947272:=0
def tw5014510658388006495:=0
def tw5099867361927451702:=0
def tw5294933591258022024:=0
def tw5436359933852244040:=0
def tw5461120350200367855:=0
def tw6457336716565196964:=0
def tw6747419968146867985:=0
def tw6889955659505656189:=0
def tw7036386023535132692:=0
def tw7126948565402166640:=0
def tw7244083011274620065:=0
def tw7352225215064854121:=0
def tw7522181749524926860:=0
def tw7644562771513592469:=0
def tw765228120964420909:=0
def tw8221224559994618861:=0
def tw8670861607980197453:=0
def tw8902791302719548670:=0
def tw9080869189537533389:=0
def tw9081947852020929754:=0
def tw9375699040220425321:=0
def tw9803181398776614656:=0
end PySem.W.Fast
namespace L2
open PySem PySem.Spec PyProof.Rows
abbrev Key:=Sum Int Str
def iq:Key->Value->Bool
 | .inl k,v=>Value.isInt k v
 | .inr x,v=>Value.isStrOf x v
def Dz (w:World):Key->Int
 | .inl k=>hashInt k
 | .inr x=>hashStr w x
def aV:∀ {k:Key} {v:Value},iq k v=true->(∃ i t,k=Sum.inl i/\v=Value.int i t)\/(∃ x t,k=Sum.inr x/\v=Value.str x t)
 | .inl i,v,h=>by
  obtain ⟨t,e⟩:=Value.isInt_shape (k:=i) (v:=v) h;exact .inl ⟨i,t,rfl,e⟩
 | .inr x,v,h=>by
  obtain ⟨t,e⟩:=Value.isStrOf_shape (x:=x) (v:=v) h;exact .inr ⟨x,t,rfl,e⟩
def oA (i:Int) (t:Tok):iq (.inl i) (.int i t)=true:=by simp [iq,Value.isInt]
def oz (x:Str) (t:Tok):iq (.inr x) (.str x t)=true:=by simp [iq,Value.isStrOf]
def ld (a b:Int):decide ((Sum.inl a:Key)=Sum.inl b)=(a == b):=by
 by_cases e:a=b
 ·subst e; simp
 ·have h:¬ (Sum.inl a:Key)=Sum.inl b:=fun q=>e (Sum.inl.inj q);rw [zaA h];exact (beq_eq_false_iff_ne.mpr e).symm
def oq (a b:Str):decide ((Sum.inr a:Key)=Sum.inr b)=decide (a=b):=by
 by_cases e:a=b
 ·subst e; simp
 ·have h:¬ (Sum.inr a:Key)=Sum.inr b:=fun q=>e (Sum.inr.inj q);rw [zaA h,zaA e]
def oy (a:Int) (b:Str):decide ((Sum.inl a:Key)=Sum.inr b)=false:=zaA (fun q=>nomatch q)
def ou (a:Str) (b:Int):decide ((Sum.inr a:Key)=Sum.inl b)=false:=zaA (fun q=>nomatch q)
def aM (prog:Program) (w:World):PySem.KeyKind prog w Key where
 is:=iq
 hash:=Dz w
 inj:=fun v a b ha hb=>by
  rcases aV ha with ⟨i,t,rfl,rfl⟩ | ⟨x,t,rfl,rfl⟩
  ·rcases aV hb with ⟨j,u,rfl,e⟩ | ⟨y,u,rfl,e⟩
   ·injection e with e1 _; rw [e1]
   ·exact nomatch e
  ·rcases aV hb with ⟨j,u,rfl,e⟩ | ⟨y,u,rfl,e⟩
   ·exact nomatch e
   ·injection e with e1 _; rw [e1]
 byValue:=fun k v h=>by
  rcases aV h with ⟨i,t,rfl,rfl⟩ | ⟨x,t,rfl,rfl⟩ <;> rfl
 pyHash:=fun hv h=>by
  rcases aV hv with ⟨i,t,rfl,rfl⟩ | ⟨x,t,rfl,rfl⟩
  ·exact wpAny_pyHash_int h
  ·exact wpAny_pyHash_str h
 eqBool:=fun hu hv h=>by
  rcases aV hu with ⟨i,t,rfl,rfl⟩ | ⟨x,t,rfl,rfl⟩
  ·rcases aV hv with ⟨j,u,rfl,rfl⟩ | ⟨y,u,rfl,rfl⟩
   ·rw [ld] at h; exact wpAny_eqBool_int h
   ·rw [oy] at h; exact SeqAt.EqAt.int_str i t y u _ _ _ _ h
  ·rcases aV hv with ⟨j,u,rfl,rfl⟩ | ⟨y,u,rfl,rfl⟩
   ·rw [ou] at h; exact SeqAt.EqAt.str_int x t j u _ _ _ _ h
   ·rw [oq] at h; exact wpAny_eqBool_str h
 «strs»:=fun k x t v h=>by
  rcases aV h with ⟨i,u,rfl,e⟩ | ⟨y,u,rfl,e⟩
  ·exact nomatch e
  ·injection e with e1 _
   subst e1;cases v <;> rfl
def l4 (prog:Program) (w:World) (i:Int) (t:Tok):(aM prog w).is (.inl i) (.int i t)=true:=oA i t
def lZ (prog:Program) (w:World) (x:Str) (t:Tok):(aM prog w).is (.inr x) (.str x t)=true:=oz x t
inductive V where
 | non | bl (b:Bool) | int (i:Int) | str (x:Str) | byt (b:Array UInt8) | flt (b:UInt64) | ref (a:Addr) | ty (n:String)
 deriving DecidableEq
def RelV:V->Value->Prop
 | .non,u=>u=Value.none
 | .bl b,u=>u=Value.bool b
 | .int i,u=>∃ t,u=Value.int i t
 | .str x,u=>∃ t,u=Value.str x t
 | .byt b,u=>∃ t,u=Value.bytes b t
 | .flt b,u=>∃ t,u=Value.float b t
 | .ref a,u=>u=Value.ref a
 | .ty n,u=>u=Value.type n
abbrev Vals:List V->List Value->Prop:=Paired RelV
def Vals.length {xs:List V} {us:List Value} (r:Vals xs us):xs.length=us.length:=Paired.length r
def Vals.get:∀ {xs:List V} {us:List Value} {i:Nat} {x:V},Vals xs us->xs[i]?=some x->∃ u,us[i]?=some u/\RelV x u
 | _,_,_,_,.nil,e=>by simp at e
 | _,_,0,_,.cons r _,e=>by simp at e; subst e; exact ⟨_,rfl,r⟩
 | _,_,i+1,x,.cons _ t,e=>by
  obtain ⟨u,h1,h2⟩:=Vals.get (i:=i) (x:=x) t (by simpa using e);exact ⟨u,by simpa using h1,h2⟩
def Vals.set {x:V} {u:Value} (r:RelV x u):∀ {xs:List V} {us:List Value} (i:Nat),Vals xs us->Vals (xs.set i x) (us.set i u)
 | _,_,_,.nil=>.nil
 | _,_,0,.cons _ t=>.cons r t
 | _,_,i+1,.cons q t=>.cons q (Vals.set r i t)
def Vals.append:∀ {xs ys:List V} {us ws:List Value},Vals xs us->Vals ys ws->Vals (xs++ys) (us++ws)
 | _,_,_,_,.nil,s=>s
 | _,_,_,_,.cons r t,s=>.cons r (Vals.append t s)
def Vals.take:∀ {xs:List V} {us:List Value} (n:Nat),Vals xs us->Vals (xs.take n) (us.take n)
 | _,_,0,_=>.nil
 | _,_,_+1,.nil=>.nil
 | _,_,n+1,.cons r t=>.cons r (Vals.take n t)
def Vals.drop:∀ {xs:List V} {us:List Value} (n:Nat),Vals xs us->Vals (xs.drop n) (us.drop n)
 | _,_,0,r=>r
 | _,_,_+1,.nil=>.nil
 | _,_,n+1,.cons _ t=>Vals.drop n t
def RelO:Option V->Option Value->Prop
 | some v,some u=>RelV v u
 | none,none=>True
 | _,_=>False
def KV {κ:Type}:List (κ × V)->List (κ × Value)->Prop:=Paired fun (p:κ × V) (q:κ × Value)=>p.1=q.1/\RelV p.2 q.2
def kV:Key->V
 | .inl i=>.int i
 | .inr x=>.str x
inductive HO where
 | lst (xs:List V)
 | tup (xs:List V)
 | dK (kvs:List (Key × V)) | dT (kvs:List (List Key × V))
 | set (S:Int->Bool) (n:Nat)
 | ins (C dx:Addr) (fs:List (Str × V))
 | own (x:Addr)
 | xd (fs:List (Str × V))
 | met (f x:Addr)
 | rng (lo hi:Int)
 | frz (o:Obj) (u:HO)
 | tbl (ps:Array Value)
 | ext (φ:Heap->Prop)
abbrev Hp:=Addr->Option HO
def upd (H:Hp) (a:Addr) (o:HO):Hp:=fun b=>if b=a then some o else H b
def aF {H:Hp} {a:Addr} {o:HO}:upd H a o a=some o:=by unfold upd; rw [if_pos rfl]
def aC {H:Hp} {a b:Addr} {o:HO} (h:b≠a):upd H a o b=H b:=by unfold upd; rw [if_neg h]
def CO {H:Hp} {a b:Addr} {o u:HO} (h:H a=some o) (h':H b=some u) (d:o≠u):a≠b:=by
 intro e; subst e; rw [h] at h'; exact d (zat h')
def a9 {H:Hp} {a b:Addr} {o:HO} (h:H a=some o) (h':H b=none):a≠b:=by
 intro e; subst e; rw [h] at h'; cases h'
def IsTupN (h:Heap) (a:Addr) (its:Array Value):Prop:=∃ o,h.get? a=some o/\o.cls=.type "tuple"/\∃ n,o.data=.seq its n/\o.dict=none
def IsTupN.tup {h:Heap} {a:Addr} {its:Array Value} (x:IsTupN h a its):IsTup h a its:=by
 obtain ⟨o,h1,h2,n,h3,_⟩:=x;exact ⟨o,h1,h2,n,h3⟩
def IsTupN.lt {h:Heap} {a:Addr} {its:Array Value} (x:IsTupN h a its):a < h.objs.size:=zal x.choose_spec.1
section
variable (P:Program) (w:World)
def ObjOk (H:Hp) (h:Heap) (a:Addr):HO->Prop
 | .lst xs=>xs.length<=sizeLine/\∃ (its:List Value) (n:Nat),Vals xs its/\h.get? a=some { cls:=.type "list",data:=.seq its.toArray n }
 | .tup xs=>xs.length<=sizeLine/\∃ its:List Value,Vals xs its/\IsTupN h a its.toArray
 | .dK kvs=>kvs.length<=sizeLine/\(a == sysModules)=false/\∃ vs,KV kvs vs/\h.DictOf (aM P w) a vs
 | .dT kvs=>kvs.length<=sizeLine/\(a == sysModules)=false/\∃ xs:List (List Key × Addr × Value),
   Paired (fun (p:List Key × V) (q:List Key × Addr × Value)=>p.1=q.1/\H q.2.1=some (.tup (p.1.map kV))/\RelV p.2 q.2.2) kvs xs /\
   ∃ o es ep,h.get? a=some o/\o.ExactDict/\o.data=.dict es ep/\es.toList=xs.map (entryOfKey (tupleKind (aM P w)))/\(xs.map (·.1)).Nodup
 | .set S n=>h.SetOf (intKind P w) a S n
 | .ins C dx fs=>H dx=some (.own a)/\fs.length<=1000/\dx≠a/\h.get? a=some (PySem.W.instObj C dx) /\
   ∃ mA,h.Ns1 dx mA/\(∀ f,RelO (fs.lookup f) (mA f))/\PySem.Within mA (fs.map (·.1))
 | .own _=>∃ o,h.get? a=some o
 | .xd fs=>∃ mA,h.Ns1 a mA/\∀ f,RelO (fs.lookup f) (mA f)
 | .rng lo hi=>∃ t u v,h.get? a=some { cls:=.type "range",data:=.fields #[.int lo t,.int hi u,.int 1 v] }
 | .frz o u=>h.get? a=some o/\ObjOk H h a u
 | .tbl ps=>h.get? a=some { cls:=.none,data:=.fields ps }
 | .met f x=>h.get? a=some (PySem.W.methodObj (.ref f) (.ref x))
 | .ext φ=>φ h/\(∃ o,h.get? a=some o)/\∀ h1 h2:Heap,φ h1->(∀ o,h1.get? a=some o->h2.get? a=some o)->φ h2
def HOk (H:Hp) (h:Heap):Prop:=∀ a o,H a=some o->ObjOk P w H h a o
end
section
variable {P:Program} {w:World} {H H':Hp} {h h':Heap} {a:Addr} {o:HO}
def ObjOk.lt (x:ObjOk P w H h a o):a < h.objs.size:=by
 cases o with
 | lst xs=>obtain ⟨_,_,_,_,e⟩:=x; exact zal e
 | tup xs=>obtain ⟨_,_,_,p⟩:=x; exact p.lt
 | dK kvs=>obtain ⟨_,_,_,_,o,_,_,e,_⟩:=x; exact zal e
 | dT kvs=>obtain ⟨_,_,_,_,o,_,_,e,_⟩:=x; exact zal e
 | set S n=>obtain ⟨o,_,_,_,e,_⟩:=x; exact zal e
 | ins C dx fs=>obtain ⟨_,_,_,e,_⟩:=x; exact zal e
 | own y=>obtain ⟨_,e⟩:=x; exact zal e
 | xd fs=>obtain ⟨_,⟨_,_,_,e,_⟩,_⟩:=x; exact zal e
 | rng lo hi=>obtain ⟨_,_,_,e⟩:=x; exact zal e
 | frz ob u=>obtain ⟨e,_⟩:=x; exact zal e
 | tbl ps=>exact zal (show h.get? a=some _ from x)
 | met f y=>exact zal (show h.get? a=some _ from x)
 | ext φ=>obtain ⟨_,⟨_,e⟩,_⟩:=x; exact zal e
def Paired.mapP {α β:Type} {F G:α->β->Prop}:∀ {l₁:List α} {l₂:List β},Paired F l₁ l₂->(∀ a b,F a b->G a b)->Paired G l₁ l₂
 | _,_,.nil,_=>.nil
 | _,_,.cons r t,f=>.cons (f _ _ r) (Paired.mapP t f)
def ObjOk.stay (x:ObjOk P w H h a o) (k:∀ b u,(b=a\/H b=some (.own a))->h.get? b=some u->h'.get? b=some u)
  (ho:∀ b,H b=some (.own a)->H' b=some (.own a)) (ht:∀ b xs,H b=some (.tup xs)->H' b=some (.tup xs)):ObjOk P w H' h' a o:=by
 induction o with
 | lst xs=>obtain ⟨z,its,n,r,e⟩:=x; exact ⟨z,its,n,r,k _ _ (.inl rfl) e⟩
 | tup xs=>obtain ⟨z,its,r,ob,e,c⟩:=x; exact ⟨z,its,r,ob,k _ _ (.inl rfl) e,c⟩
 | dK kvs=>obtain ⟨z,y,vs,r,ob,es,ep,e,c⟩:=x; exact ⟨z,y,vs,r,ob,es,ep,k _ _ (.inl rfl) e,c⟩
 | dT kvs =>
  obtain ⟨z,y,xs,r,ob,es,ep,e,c⟩:=x;exact ⟨z,y,xs,Paired.mapP r fun p q z=>⟨z.1,ht _ _ z.2.1,z.2.2⟩,ob,es,ep,k _ _ (.inl rfl) e,c⟩
 | set S n=>obtain ⟨ob,es,ep,t,e,c⟩:=x; exact ⟨ob,es,ep,t,k _ _ (.inl rfl) e,c⟩
 | ins C dx fs =>
  obtain ⟨d,z,ne,e,mA,⟨od,es,ep,e2,c⟩,r⟩:=x;exact ⟨ho _ d,z,ne,k _ _ (.inl rfl) e,mA,⟨od,es,ep,k _ _ (.inr d) e2,c⟩,r⟩
 | own y=>obtain ⟨ob,e⟩:=x; exact ⟨ob,k _ _ (.inl rfl) e⟩
 | xd fs=>obtain ⟨mA,⟨od,es,ep,e,c⟩,r⟩:=x; exact ⟨mA,⟨od,es,ep,k _ _ (.inl rfl) e,c⟩,r⟩
 | rng lo hi=>obtain ⟨t,u,v,e⟩:=x; exact ⟨t,u,v,k _ _ (.inl rfl) e⟩
 | frz ob u ih=>obtain ⟨e,q⟩:=x; exact ⟨k _ _ (.inl rfl) e,ih q⟩
 | tbl ps =>
  have e:h.get? a=some { cls:=.none,data:=.fields ps }:=x;show h'.get? a=some { cls:=.none,data:=.fields ps };exact k a _ (.inl rfl) e
 | met f y =>
  have e:h.get? a=some (PySem.W.methodObj (.ref f) (.ref y)):=x;show h'.get? a=some (PySem.W.methodObj (.ref f) (.ref y));exact k a _ (.inl rfl) e
 | ext φ=>obtain ⟨p,⟨o,e⟩,st⟩:=x; exact ⟨st _ _ p fun o q=>k _ _ (.inl rfl) q,⟨o,k _ _ (.inl rfl) e⟩,st⟩
def HOk.lt (x:HOk P w H h) (e:H a=some o):a < h.objs.size:=(x a o e).lt
def HOk.fresh (x:HOk P w H h) (e:h.objs.size<=a):H a=none:=by
 cases q:H a with
 | none=>rfl
 | some u=>exact absurd (zag (x.lt q) e) (zaH _)
def HOk.kept (x:HOk P w H h) (k:∀ b u,h.get? b=some u->h'.get? b=some u):HOk P w H h':=fun a o e =>
 (x a o e).stay (fun b u _ q=>k b u q) (fun _ q=>q) fun _ _ q=>q
def HOk.laid (x:HOk P w H h) (k:∀ b u,h.get? b=some u->h'.get? b=some u) (hp:h.objs.size<=a) (new:ObjOk P w (upd H a o) h' a o):HOk P w (upd H a o) h':=fun b u e=>by
 have hn:=x.fresh hp;by_cases hb:b=a
 ·subst hb; rw [aF] at e; cases e; exact new
 ·rw [aC hb] at e;exact (x b u e).stay (fun c v _ q=>k c v q) (fun c q=>by rw [aC (a9 q hn)]; exact q) fun c xs q=>by rw [aC (a9 q hn)]; exact q
end
def Rd (H:Hp) (a:Addr) (u:HO):Prop:=H a=some u\/∃ o,H a=some (.frz o u)
def Rd.ok {P:Program} {w:World} {H:Hp} {h:Heap} {a:Addr} {u:HO} (r:Rd H a u) (x:HOk P w H h):ObjOk P w H h a u:=by
 rcases r with r | ⟨o,r⟩
 ·exact x a u r
 ·obtain ⟨_,q⟩:=x a _ r;exact q
def Mut:Option HO->Prop
 | some (.lst _)=>True
 | some (.dK _)=>True
 | some (.dT _)=>True
 | some (.set _ _)=>True
 | some (.ins _ _ _)=>True
 | some (.ext _)=>True
 | _=>False
section
variable {P:Program} {w:World} {H:Hp} {h h':Heap} {x e:Addr} {o':HO}
def HOk.write (ok:HOk P w H h) (mu:Mut (H x)) (he:e=x\/H e=some (.own x)) (k:∀ b u,b≠e->h.get? b=some u->h'.get? b=some u) (heo:∃ u,h'.get? e=some u)
  (new:ObjOk P w (upd H x o') h' x o'):HOk P w (upd H x o') h':=fun b u q=>by
 have nown:∀ c y,H c=some (.own y)->c≠x:=fun c y r z=>by subst z; rw [r] at mu; exact mu
 have ntup:∀ c xs,H c=some (.tup xs)->c≠x:=fun c xs r z=>by subst z; rw [r] at mu; exact mu
 by_cases hb:b=x
 ·subst hb; rw [aF] at q; cases q; exact new
 ·rw [aC hb] at q;by_cases hbe:b=e
  ·have q':H b=some (.own x):=by
    rcases he with z | z
    ·exact absurd (hbe.trans z) hb
    ·rw [hbe]; exact z
   rw [q] at q'; cases q';obtain ⟨v,hv⟩:=heo;exact ⟨v,by rw [hbe]; exact hv⟩
  ·refine (ok b u q).stay (fun c v hc r=>k c v ?_ r) (fun c r=>by rw [aC (nown c b r)]; exact r) fun c xs r=>by rw [aC (ntup c xs r)]; exact r
   rcases hc with rfl | hc
   ·exact hbe
   ·rintro rfl;rcases he with z | z
    ·exact nown c b hc z
    ·rw [hc] at z; cases z; exact hb rfl
end
structure Un (fs ex:List Addr) (H H':Hp) (h h':Heap):Prop where
 keep:∀ b o,h.get? b=some o->H b=none->b ∉ fs->b ∉ ex->h'.get? b=some o
 slot:∀ b o,h.get? b=some o->H b=none->b∈fs->b ∉ ex->∃ sl,h'.get? b=some { o with slots:=sl }
 free:∀ b o,h.get? b=some o->H b=none->b ∉ ex->H' b=none
 there:∀ b o,h.get? b=some o->b ∉ ex->∃ o',h'.get? b=some o'
 tups:∀ b xs,H b=some (.tup xs)->H' b=some (.tup xs)
 frzs:∀ b o u,H b=some (.frz o u)->H' b=some (.frz o u)
 tbls:∀ b ps,H b=some (.tbl ps)->∃ more,H' b=some (.tbl (ps++more))
section
variable {fs fs' ex ex':List Addr} {H H1 H2:Hp} {h h1 h2 h':Heap} {a x e:Addr} {o:HO}
def Un.any (u:Un fs ex H H1 h h1) {b:Addr} {ob:Obj} (q:h.get? b=some ob) (n:H b=none) (hx:b ∉ ex):∃ sl,h1.get? b=some { ob with slots:=sl }:=by
 by_cases hb:b∈fs
 ·exact u.slot b ob q n hb hx
 ·exact ⟨ob.slots,u.keep b ob q n hb hx⟩
def Un.trans (a:Un fs ex H H1 h h1) (b:Un fs ex H1 H2 h1 h2):Un fs ex H H2 h h2 where
 keep:=fun c ob q n hc hx=>b.keep c ob (a.keep c ob q n hc hx) (a.free c ob q n hx) hc hx
 slot:=fun c ob q n hc hx=>by
  obtain ⟨sl,e1⟩:=a.slot c ob q n hc hx;obtain ⟨sl',e2⟩:=b.slot c _ e1 (a.free c ob q n hx) hc hx;exact ⟨sl',e2⟩
 free:=fun c ob q n hx=>by
  obtain ⟨o',e1⟩:=a.there c ob q hx;exact b.free c o' e1 (a.free c ob q n hx) hx
 there:=fun c ob q hx=>by
  obtain ⟨o',e1⟩:=a.there c ob q hx;exact b.there c o' e1 hx
 tups:=fun c xs q=>b.tups c xs (a.tups c xs q)
 frzs:=fun c ob xs q=>b.frzs c ob xs (a.frzs c ob xs q)
 tbls:=fun c ps q=>by
  obtain ⟨m1,e1⟩:=a.tbls c ps q;obtain ⟨m2,e2⟩:=b.tbls c _ e1;exact ⟨m1++m2,by rw [e2,Array.append_assoc]⟩
def Un.kept (k:∀ b u,h.get? b=some u->h'.get? b=some u):Un fs ex H H h h' :=
 ⟨fun b ob q _ _ _=>k b ob q,fun b ob q _ _ _=>⟨ob.slots,k b ob q⟩,fun _ _ _ n _=>n,fun b ob q _=>⟨ob,k b ob q⟩,fun _ _ q=>q,fun _ _ _ q=>q,fun _ ps q=>⟨#[],by rw [q]; simp⟩⟩
def Un.refl:Un fs ex H H h h:=Un.kept fun _ _ q=>q
def Un.laid (k:∀ b u,h.get? b=some u->h'.get? b=some u) (hp:h.objs.size<=a) (hn:H a=none):Un fs ex H (upd H a o) h h' where
 keep:=fun b u q _ _ _=>k b u q
 slot:=fun b u q _ _ _=>⟨u.slots,k b u q⟩
 free:=fun b u q n _=>by rw [aC (zaw (zag (zal q) hp))]; exact n
 there:=fun b u q _=>⟨u,k b u q⟩
 tups:=fun b xs q=>by rw [aC (a9 q hn)]; exact q
 frzs:=fun b u xs q=>by rw [aC (a9 q hn)]; exact q
 tbls:=fun b ps q=>⟨#[],by rw [aC (a9 q hn),q]; simp⟩
def Un.write (mu:Mut (H x)) (he:e=x\/H e=some (.own x)) (k:∀ b u,b≠e->h.get? b=some u->h'.get? b=some u) (heo:∃ u,h'.get? e=some u):Un fs ex H (upd H x o) h h':=by
 have hx:∀ b,H b=none->b≠x:=fun b n z=>by subst z; rw [n] at mu; exact mu
 have hb:∀ b,H b=none->b≠e:=fun b n z=>by
  subst z;rcases he with r | r
  ·exact hx b n r
  ·rw [n] at r; cases r
 have hm:∀ b u,H b=some u->¬ Mut (some u)->b≠x:=fun b u q nm z=>by subst z; rw [q] at mu; exact nm mu
 refine ⟨fun b u q n _ _=>k b u (hb b n) q,fun b u q n _ _=>⟨u.slots,k b u (hb b n) q⟩,fun b u q n _=>by rw [aC (hx b n)]; exact n,fun b u q _=>?_,
  fun b xs q=>by rw [aC (hm b _ q fun z=>z)]; exact q,fun b u xs q=>by rw [aC (hm b _ q fun z=>z)]; exact q,fun b ps q=>⟨#[],by rw [aC (hm b _ q fun z=>z),q]; simp⟩⟩
 by_cases hbe:b=e
 ·subst hbe; exact heo
 ·exact ⟨u,k b u hbe q⟩
end
def trk (h:Heap) (H:Hp):List Addr:=(List.range h.objs.size).filter fun a=>(H a).isSome
def fZ (h:Heap) (H:Hp):Heap:=PySem.W.hideAll h (trk h H)
def oI (h:Heap) (H:Hp):(fZ h H).objs.size=h.objs.size:=PySem.W.hideAll_size _ _
def qm {h:Heap} {H:Hp} {b:Addr} {o:Obj} (e:h.get? b=some o) (n:H b=none):(fZ h H).get? b=some o :=
 PySem.W.hideAll_get _ e fun hm=>by
  have q:(H b).isSome=true:=(List.mem_filter.mp hm).2;rw [n] at q; simp at q
def xi {h:Heap} {H:Hp} {b:Addr} {o:Obj} (e:(fZ h H).get? b=some o):h.get? b=some o/\H b=none:=by
 have e':h.get? b=some o:=PySem.W.of_hideAll (trk h H) e;refine ⟨e',?_⟩;cases q:H b with
 | none=>rfl
 | some x =>
  have hm:b∈trk h H:=List.mem_filter.mpr ⟨List.mem_range.mpr (zal e'),by simp [q]⟩;have z:(fZ h H).get? b=none:=PySem.W.hideAll_none (trk h H) hm;rw [z] at e; cases e
def yv (g h:Heap) (L:Addr):List (Addr × Obj):=(List.range h.objs.size).filterMap fun a=>if a=L\/(g.get? a).isSome=true then none else (h.get? a).map fun o=>(a,o)
def rest (g h:Heap) (L d:Addr):List (Addr × Obj):=(yv g h L).filter fun p=>decide (p.1≠d)
structure Mod (K:PySem.W.Frag) (mg:Str->Option Value) (base:Heap):Prop where
 kin:K.In base
 glob:base.Ns mainGlobals mg
 blt:∃ mb,base.Ns builtinsNs mb/\∀ x:Str,x≠"__name__"->mb x=bootBuiltins x
 nolimit:base.NoLimit
 mods:∃ mm,base.Ns sysModules mm
structure Cx where
 prog:Program
 w:World
 K:PySem.W.Frag
 mg:Str->Option Value
 base:Heap
 A:Around
 N:List Str
 s₀:Shared
 H₀:Hp
 env:Env
 outer:List Env
 stack:List Env
 ex:List Addr
 fn:Str->Bool
 calm:Bool
 pn:List (Addr × Obj)
 xe:Value->Shared->Prop
def frs (l:List Env):List Addr:=l.filterMap (·.frame)
abbrev Cx.fs (X:Cx):List Addr:=frs X.outer
def Vis (sc:Scope) (x:Str):Prop:=sc.names.lookup x=some .local\/sc.names.lookup x=some .cell\/sc.names.lookup x=some .free
def Loc (sc:Scope) (x:Str):Prop:=sc.names.lookup x=some .local\/sc.names.lookup x=some .cell
def DL (env:Env) (h:Heap) (m:Str->Option Value) (x:Str) (u:Value):Prop :=
 (env.kindOf x=some .local/\m x=some u)\/((env.kindOf x=some .cell\/env.kindOf x=some .free)/\∃ c,env.cells.lookup x=some c/\h.IsCell c (some u))
structure Cx.Ok (X:Cx):Prop where
 mod:Mod X.K X.mg X.base
 kind:X.env.scope.kind=.function
 glob:X.env.globals=mainGlobals
 blt:X.env.builtins=builtinsNs
 above:X.s₀.heap.objs.size<=X.env.locals
 inj:∀ x y c,X.env.cells.lookup x=some c->X.env.cells.lookup y=some c->x=y
 has:∀ x,(X.env.kindOf x=some .cell\/X.env.kindOf x=some .free)->∃ c,X.env.cells.lookup x=some c
 cab:∀ x c,X.fn x=true->X.env.cells.lookup x=some c->X.s₀.heap.objs.size<=c
 hd:X.calm=true->X.A.handled=none
 frames:X.A.frames=some X.stack
 stk:X.stack=X.outer\/(X.stack=X.env :: X.outer/\X.env.frame=some X.env.locals)
 exf:∀ b∈X.ex,b≠X.env.locals/\∀ x c,X.env.cells.lookup x=some c->c≠b
 bs:∀ b o,X.base.get? b=some o->X.s₀.heap.get? b=some o/\X.H₀ b=none
 bsz:X.base.objs.size<=X.s₀.heap.objs.size
 noex:∀ b o,X.base.get? b=some o->b ∉ X.ex
 exfs:∀ b∈X.ex,b ∉ X.fs
 funs:X.s₀.heap.FunFrames X.base X.outer
 frf:∀ b∈X.fs,X.H₀ b=none
structure Inv (X:Cx) (pins:List (Addr × Obj)) (σ:List (Option V)) (H:Hp) (s:Shared):Prop where
 ok:X.Ok
 os:s.os=X.s₀.os
 bare:AllBare s.gens
 base:Un X.fs X.ex X.H₀ H X.s₀.heap s.heap
 loc:∃ m,s.heap.Ns X.env.locals m/\∀ (i:Nat) (x:Str) (v:V),X.N[i]?=some x->σ[i]?=some (some v)->Vis X.env.scope x->∃ u,RelV v u/\DL X.env s.heap m x u
 cell:∀ x c,X.env.cells.lookup x=some c->∃ v,s.heap.IsCell c v
 free:H X.env.locals=none
 freeC:∀ x c,X.env.cells.lookup x=some c->H c=none
 pin:∀ p∈X.pn++pins,s.heap.get? p.1=some p.2/\H p.1=none/\p.1≠X.env.locals/\p.1 ∉ X.fs/\∀ v,p.2.data≠.cell v
 hok:HOk X.prog X.w H s.heap
 len:σ.length=X.N.length
section
variable {X:Cx} {pins:List (Addr × Obj)} {σ:List (Option V)} {H H':Hp} {s:Shared} {h':Heap}
def Cx.Ok.nofr (ok:X.Ok) {b:Addr} {o:Obj} (e:X.base.get? b=some o):b ∉ X.fs:=fun hb=>by
 have:=(ok.funs.mem hb).1;rw [e] at this; cases this
def Inv.bs (I:Inv X pins σ H s):∀ b o,X.base.get? b=some o->s.heap.get? b=some o/\H b=none:=fun b o e =>
 ⟨I.base.keep b o (I.ok.bs b o e).1 (I.ok.bs b o e).2 (I.ok.nofr e) (I.ok.noex b o e),I.base.free b o (I.ok.bs b o e).1 (I.ok.bs b o e).2 (I.ok.noex b o e)⟩
def Inv.bk (I:Inv X pins σ H s):∀ b o,X.base.get? b=some o->s.heap.get? b=some o:=fun b o e=>(I.bs b o e).1
def Inv.mod (I:Inv X pins σ H s):Mod X.K X.mg X.base:=I.ok.mod
def Inv.kIn (I:Inv X pins σ H s):X.K.In s.heap:=I.ok.mod.kin.keeps I.bk
def Inv.lt (I:Inv X pins σ H s):X.env.locals < s.heap.objs.size:=let ⟨_,hn,_⟩:=I.loc; hn.lt
def Inv.sz (I:Inv X pins σ H s):X.s₀.heap.objs.size<=s.heap.objs.size:=zau I.ok.above (zaU I.lt)
def Inv.nofs (I:Inv X pins σ H s) {a:Addr} (h:s.heap.objs.size<=a):a ∉ X.fs:=fun hb=>by
 obtain ⟨_,o,ho,_⟩:=I.ok.funs.mem hb;exact absurd (zag (zal ho) (zau I.sz h)) (zaH _)
def Inv.cne (I:Inv X pins σ H s):∀ x c,X.env.cells.lookup x=some c->c≠X.env.locals:=fun x c e z=>by
 obtain ⟨v,o,ho,hd⟩:=I.cell x c e;obtain ⟨m,⟨o',es,ep,ho',hd',_⟩,_⟩:=I.loc;rw [z,ho'] at ho; cases ho; rw [hd'] at hd; cases hd
def Inv.funs (I:Inv X pins σ H s):s.heap.FunFrames X.base X.outer:=by
 have all:∀ (l:List Env),(∀ b∈frs l,b∈X.fs)->X.s₀.heap.FunFrames X.base l->s.heap.FunFrames X.base l:=by
  intro l
  induction l with
  | nil=>intro _ _; trivial
  | cons env r ih =>
   intro hs hl;obtain ⟨hk,⟨L,o,hf,hn,ho,hd⟩,hr⟩:=hl;have hL:L∈X.fs:=hs L (by unfold frs; rw [List.filterMap_cons,hf]; exact zaq);obtain ⟨sl,e⟩:=I.base.slot L o ho (I.ok.frf L hL) hL fun z=>I.ok.exfs L z hL;exact ⟨hk,⟨L,_,hf,hn,e,hd⟩,ih (fun b hb=>hs b (by unfold frs; rw [List.filterMap_cons,hf]; exact zaj _ hb)) hr⟩
 exact all X.outer (fun _ hb=>hb) I.ok.funs
def Inv.stack (I:Inv X pins σ H s):s.heap.FunFrames X.base X.stack:=by
 rcases I.ok.stk with e | ⟨e,hf⟩
 ·rw [e]; exact I.funs
 ·rw [e];obtain ⟨m,hn,_⟩:=I.loc;refine .cons (by rw [I.ok.kind]; decide) hf hn ?_ I.funs;exact Heap.get?_none_of_le (zau I.ok.bsz I.ok.above)
def Inv.stkSub (I:Inv X pins σ H s):∀ b∈frs X.stack,b∈X.env.locals :: X.fs:=fun b hb=>by
 rcases I.ok.stk with e | ⟨e,hf⟩
 ·rw [e] at hb; exact zaj _ hb
 ·rw [e] at hb;unfold frs at hb;rw [List.filterMap_cons,hf] at hb;exact hb
def Inv.stkFree (I:Inv X pins σ H s):∀ b∈frs X.stack,H b=none:=fun b hb=>by
 rcases zay.mp (I.stkSub b hb) with e | hb
 ·rw [e]; exact I.free
 ·obtain ⟨_,o,ho,_⟩:=I.ok.funs.mem hb;exact I.base.free b o ho (I.ok.frf b hb) fun z=>I.ok.exfs b z hb
def Inv.step {g':Array GenState} {t':Nat} {d':Drawn} {ch:List Addr} (I:Inv X pins σ H s)
  (hch:∀ b∈ch,(b∈X.ex\/X.s₀.heap.objs.size<=b)/\b≠X.env.locals/\(∀ x c,X.env.cells.lookup x=some c->c≠b)/\∀ p∈X.pn++pins,p.1≠b)
  (keep:∀ b o,b≠X.env.locals->b ∉ X.fs->b ∉ ch->s.heap.get? b=some o->H b=none->h'.get? b=some o)
  (slot:∀ b o,b≠X.env.locals->b∈X.fs->b ∉ ch->s.heap.get? b=some o->H b=none->∃ sl,h'.get? b=some { o with slots:=sl }) (free:∀ b o,b ∉ ch->s.heap.get? b=some o->H b=none->H' b=none)
  (there:∀ b o,b ∉ ch->s.heap.get? b=some o->∃ o',h'.get? b=some o')
  (tups:∀ b xs,H b=some (.tup xs)->H' b=some (.tup xs)) (frzs:∀ b o u,H b=some (.frz o u)->H' b=some (.frz o u)) (tbls:∀ b ps,H b=some (.tbl ps)->∃ more,H' b=some (.tbl (ps++more)))
  (ns:∀ m,s.heap.Ns X.env.locals m->h'.Ns X.env.locals m) (hok:HOk X.prog X.w H' h') (hg:AllBare g') :
  Inv X pins σ H' { s with heap:=h',gens:=g',drawn:=d',toks:=t' }:=by
 have neL:∀ b o,X.s₀.heap.get? b=some o->b≠X.env.locals:=fun b o e=>zaw (zag (zal e) I.ok.above);have neC:∀ b o,X.s₀.heap.get? b=some o->b ∉ X.ex->b ∉ ch:=fun b o e hx hb=>by
  rcases (hch b hb).1 with z | z
  ·exact hx z
  ·exact absurd (zag (zal e) z) (zaH _)
 have cellK:∀ x c,X.env.cells.lookup x=some c->∀ v,s.heap.IsCell c v->h'.IsCell c v:=fun x c e v ⟨o,ho,hd⟩=>by
  have nch:c ∉ ch:=fun z=>(hch c z).2.2.1 x c e rfl;by_cases hc:c∈X.fs
  ·obtain ⟨sl,q⟩:=slot c o (I.cne x c e) hc nch ho (I.freeC x c e);exact ⟨_,q,hd⟩
  ·exact ⟨o,keep c o (I.cne x c e) hc nch ho (I.freeC x c e),hd⟩
 refine ⟨I.ok,I.os,hg,⟨fun b o e n hb hx=>?_,fun b o e n hb hx=>?_,fun b o e n hx=>?_,fun b o e hx=>?_,fun b xs e=>tups b xs (I.base.tups b xs e),fun b o xs e=>frzs b o xs (I.base.frzs b o xs e),fun b ps e=>?_⟩,?_,fun x c e=>?_,?_,fun x c e=>?_,fun p hp=>?_,hok,I.len⟩
 ·exact keep b o (neL b o e) hb (neC b o e hx) (I.base.keep b o e n hb hx) (I.base.free b o e n hx)
 ·obtain ⟨sl,e1⟩:=I.base.slot b o e n hb hx;obtain ⟨sl',e2⟩:=slot b _ (neL b o e) hb (neC b o e hx) e1 (I.base.free b o e n hx);exact ⟨sl',e2⟩
 ·obtain ⟨o',e1⟩:=I.base.there b o e hx;exact free b o' (neC b o e hx) e1 (I.base.free b o e n hx)
 ·obtain ⟨o',e1⟩:=I.base.there b o e hx;exact there b o' (neC b o e hx) e1
 ·obtain ⟨m1,e1⟩:=I.base.tbls b ps e;obtain ⟨m2,e2⟩:=tbls b _ e1;exact ⟨m1++m2,by rw [e2,Array.append_assoc]⟩
 ·obtain ⟨m,hn,hl⟩:=I.loc;refine ⟨m,ns m hn,fun i x v e1 e2 e3=>?_⟩;obtain ⟨u,r,l⟩:=hl i x v e1 e2 e3;refine ⟨u,r,?_⟩;rcases l with l | ⟨k,c,e,z⟩
  ·exact .inl l
  ·exact .inr ⟨k,c,e,cellK x c e _ z⟩
 ·obtain ⟨v,z⟩:=I.cell x c e;exact ⟨v,cellK x c e v z⟩
 ·obtain ⟨m,⟨o,_,_,ho,_⟩,_⟩:=I.loc;exact free _ o (fun z=>(hch _ z).2.1 rfl) ho I.free
 ·obtain ⟨v,o,ho,hd⟩:=I.cell x c e;exact free c o (fun z=>(hch c z).2.2.1 x c e rfl) ho (I.freeC x c e)
 ·obtain ⟨e,n,ne,nf,d⟩:=I.pin p hp;have nch:p.1 ∉ ch:=fun z=>(hch p.1 z).2.2.2 p hp rfl;exact ⟨keep p.1 p.2 ne nf nch e n,free p.1 p.2 nch e n,ne,nf,d⟩
def Inv.un {t':Nat} (I:Inv X pins σ H s) (u:Un X.fs [] H H' s.heap h') (hok:HOk X.prog X.w H' h'):Inv X pins σ H' { s with heap:=h',toks:=t' }:=by
 obtain ⟨m,⟨o,es,ep,ho,r⟩,_⟩:=id I.loc;obtain ⟨sl,hL⟩:=u.any ho I.free (by simp);exact I.step (g':=s.gens) (d':=s.drawn) (ch:=[]) (fun _ z=>nomatch z) (fun b o _ hb _ e n=>u.keep b o e n hb (by simp)) (fun b o _ hb _ e n=>u.slot b o e n hb (by simp)) (fun b o _ e n=>u.free b o e n (by simp)) (fun b o _ e=>u.there b o e (by simp)) u.tups u.frzs u.tbls (fun m' hm=>by
  obtain ⟨o',es',ep',ho',r'⟩:=hm;rw [ho] at ho'; cases ho';exact ⟨_,es',ep',hL,r'⟩) hok I.bare
def Inv.call {g':Array GenState} {t':Nat} {d':Drawn} {ch:List Addr} (I:Inv X pins σ H s) (u:Un (frs X.stack) ch H H' s.heap h') (hok:HOk X.prog X.w H' h') (hg:AllBare g')
  (hch:∀ b∈ch,(b∈X.ex\/X.s₀.heap.objs.size<=b)/\b≠X.env.locals/\(∀ x c,X.env.cells.lookup x=some c->c≠b)/\∀ p∈X.pn++pins,p.1≠b) :
  Inv X pins σ H' { s with heap:=h',gens:=g',drawn:=d',toks:=t' }:=by
 obtain ⟨m,⟨o,es,ep,ho,r⟩,_⟩:=id I.loc;obtain ⟨sl,hL⟩:=u.any ho I.free fun z=>(hch _ z).2.1 rfl;exact I.step (ch:=ch) hch (fun b o hL hb hc e n=>u.keep b o e n (fun z=>(zay.mp (I.stkSub b z)).elim hL hb) hc) (fun b o _ _ hc e n=>u.any e n hc) (fun b o hc e n=>u.free b o e n hc) (fun b o hc e=>u.there b o e hc) u.tups u.frzs u.tbls (fun m' hm=>by
  obtain ⟨o',es',ep',ho',r'⟩:=hm;rw [ho] at ho'; cases ho';exact ⟨_,es',ep',hL,r'⟩) hok hg
def Inv.turned {t':Nat} {it:Addr} (I:Inv X pins σ H s) (k:∀ b o,b≠it->s.heap.get? b=some o->h'.get? b=some o) (hn:H it=none) (hL:it≠X.env.locals)
  (h1:it∈X.ex\/X.s₀.heap.objs.size<=it) (h2:∀ x c,X.env.cells.lookup x=some c->c≠it) (h3:∀ p∈X.pn++pins,p.1≠it):Inv X pins σ H { s with heap:=h',toks:=t' }:=by
 have nit:∀ b u,H b=some u->b≠it:=fun b u e z=>by rw [z,hn] at e; cases e
 refine I.step (g':=s.gens) (d':=s.drawn) (ch:=[it]) (fun b hb=>?_) (fun b o _ _ hc e _=>k b o (fun z=>hc (by simp [z])) e) (fun b o _ _ hc e _=>⟨o.slots,k b o (fun z=>hc (by simp [z])) e⟩) (fun _ _ _ _ n=>n)
  (fun b o hc e=>⟨o,k b o (fun z=>hc (by simp [z])) e⟩) (fun _ _ e=>e) (fun _ _ _ e=>e) (fun b ps e=>⟨#[],by rw [e]; simp⟩) (fun m hm=>?_) (fun b u e=>?_) I.bare
 ·have e:b=it:=by simpa using hb
  subst e;exact ⟨h1,hL,h2,h3⟩
 ·obtain ⟨o,es,ep,ho,r⟩:=hm;exact ⟨o,es,ep,k _ o (Ne.symm hL) ho,r⟩
 ·refine (I.hok b u e).stay (fun c v hc q=>k c v ?_ q) (fun _ q=>q) fun _ _ q=>q;rcases hc with z | z
  ·rw [z]; exact nit b u e
  ·exact nit c _ z
def Inv.tok (I:Inv X pins σ H s) (t:Nat):Inv X pins σ H { s with toks:=t }:=I.un (h':=s.heap) (t':=t) Un.refl I.hok
def Inv.kept {t':Nat} (I:Inv X pins σ H s) (k:∀ b u,s.heap.get? b=some u->h'.get? b=some u):Inv X pins σ H { s with heap:=h',toks:=t' }:=I.un (Un.kept k) (I.hok.kept k)
def Inv.laid {a:Addr} {o:HO} {t':Nat} (I:Inv X pins σ H s) (k:∀ b u,s.heap.get? b=some u->h'.get? b=some u) (hp:s.heap.objs.size<=a) (new:ObjOk X.prog X.w (upd H a o) h' a o) :
  Inv X pins σ (upd H a o) { s with heap:=h',toks:=t' }:=I.un (Un.laid k hp (I.hok.fresh hp)) (I.hok.laid k hp new)
def Inv.write {x e:Addr} {o:HO} {t':Nat} (I:Inv X pins σ H s) (mu:Mut (H x)) (he:e=x\/H e=some (.own x)) (k:∀ b u,b≠e->s.heap.get? b=some u->h'.get? b=some u) (heo:∃ u,h'.get? e=some u)
  (new:ObjOk X.prog X.w (upd H x o) h' x o):Inv X pins σ (upd H x o) { s with heap:=h',toks:=t' }:=I.un (Un.write mu he k heo) (I.hok.write mu he k heo new)
def Inv.pins_of {pins':List (Addr × Obj)} (I:Inv X pins σ H s) (h:∀ p∈pins',s.heap.get? p.1=some p.2/\H p.1=none/\p.1≠X.env.locals/\p.1 ∉ X.fs/\∀ v,p.2.data≠.cell v):Inv X pins' σ H s :=
 ⟨I.ok,I.os,I.bare,I.base,I.loc,I.cell,I.free,I.freeC,fun p hp=>(zax.mp hp).elim (fun z=>I.pin p (List.mem_append_left _ z)) (h p),I.hok,I.len⟩
def k4 {N:List Str} (hN:N.Nodup) {i j:Nat} {x:Str} (a:N[i]?=some x) (b:N[j]?=some x):i=j:=by
 obtain ⟨h1,e1⟩:=zah.mp a;obtain ⟨h2,e2⟩:=zah.mp b;exact (List.getElem_inj hN).mp (e1.trans e2.symm)
def j3 {M:Model} {A:Around} {E:Value->Shared->Prop} {i:Nat} {x:Str} {v:V} {u:Value} {Q:Unit->Shared->Prop} (I:Inv X pins σ H s) (hN:X.N.Nodup) (hi:X.N[i]?=some x) (hx:Loc X.env.scope x) (r:RelV v u)
  (h:∀ s',Inv X pins (σ.set i (some v)) H s'->(∃ a,Heap.SameBut a s.heap s'.heap/\(a=X.env.locals\/X.env.cells.lookup x=some a))->Q () s') (hf:X.fn x=true\/X.env.scope.names.lookup x=some .local:=by first | exact .inl rfl | exact .inr rfl | assumption):wpAny M A (storeName X.env x u) Q E s:=by
 obtain ⟨m,hn,hl⟩:=id I.loc;have hcls:(X.env.scope.kind == .class || (X.env.scope.kind == .module && X.env.locals != X.env.globals))=false:=by rw [I.ok.kind]; rfl
 have hiσ:i < σ.length:=by rw [I.len]; exact (zah.mp hi).1
 have cne:=I.cne;have tracked:∀ {a:Addr} {h':Heap},(∃ o,s.heap.get? a=some o/\H a=none)->Heap.SameBut a s.heap h'->HOk X.prog X.w H h':=fun {a h'} ha hs b ob e=>by
  obtain ⟨_,_,hfree⟩:=ha;refine (I.hok b ob e).stay (fun c w' hc q=>(hs.2 c ?_).trans q) (fun _ q=>q) fun _ _ q=>q;rintro rfl;rcases hc with rfl | hc
  ·rw [hfree] at e; cases e
  ·rw [hfree] at hc; cases hc
 rcases hx with hk | hk
 ·refine wpAny_storeName_local hk hn (fun h' hn' hs=>?_) hcls;obtain ⟨oL,_,_,hoL,_⟩:=id hn;refine h _ ⟨I.ok,I.os,I.bare,⟨fun b o e n hb hx=>?_,fun b o e n hb hx=>?_,I.base.free,fun b o e hx=>?_,I.base.tups,I.base.frzs,I.base.tbls⟩,⟨_,hn',fun j y v' e1 e2 e3=>?_⟩,fun y c e=>?_,I.free,I.freeC,fun p hp=>?_,tracked ⟨oL,hoL,I.free⟩ hs,by simpa using I.len⟩ ⟨_,hs,.inl rfl⟩
  ·exact (hs.2 b (zaw (zag (zal e) I.ok.above))).trans (I.base.keep b o e n hb hx)
  ·obtain ⟨sl,e1⟩:=I.base.slot b o e n hb hx;exact ⟨sl,(hs.2 b (zaw (zag (zal e) I.ok.above))).trans e1⟩
  ·obtain ⟨o',e1⟩:=I.base.there b o e hx;exact ⟨o',(hs.2 b (zaw (zag (zal e) I.ok.above))).trans e1⟩
  ·by_cases hj:j=i
   ·subst hj;rw [hi] at e1; cases e1;rw [zaN hiσ] at e2;cases e2;exact ⟨u,r,.inl ⟨hk,by simp⟩⟩
   ·rw [zaM (Ne.symm hj)] at e2;obtain ⟨u',r',q⟩:=hl j y v' e1 e2 e3;refine ⟨u',r',?_⟩;rcases q with ⟨k,e⟩ | ⟨k,c,e,z⟩
    ·refine .inl ⟨k,?_⟩
     have:y≠x:=fun e=>hj (k4 hN e1 (e ▸ hi));simp [this,e]
    ·exact .inr ⟨k,c,e,z.sameBut hs (cne y c e)⟩
  ·obtain ⟨w',z⟩:=I.cell y c e;exact ⟨w',z.sameBut hs (cne y c e)⟩
  ·obtain ⟨e,n,ne,nf,d⟩:=I.pin p hp;exact ⟨(hs.2 p.1 ne).trans e,n,ne,nf,d⟩
 ·have hfn:X.fn x=true:=by
   rcases hf with z | z
   ·exact z
   ·rw [z] at hk; cases hk
  obtain ⟨c,hc⟩:=I.ok.has x (.inl hk);obtain ⟨w',z⟩:=I.cell x c hc;refine wpAny_storeName_cell I.ok.kind hk hc z (fun h' hc' hs=>?_);obtain ⟨oc,hoc,hocd⟩:=id z;refine h { s with heap:=h' } ⟨I.ok,I.os,I.bare,⟨fun b o e n hb hx=>?_,fun b o e n hb hx=>?_,I.base.free,fun b o e hx=>?_,I.base.tups,I.base.frzs,I.base.tbls⟩,⟨m,hn.sameBut hs (Ne.symm (cne x c hc)),fun j y v' e1 e2 e3=>?_⟩,fun y c' e=>?_,I.free,I.freeC,fun p hp=>?_,tracked ⟨oc,hoc,I.freeC x c hc⟩ hs,by simpa using I.len⟩ ⟨c,hs,.inr hc⟩
  ·exact (hs.2 b (zaw (zag (zal e) (I.ok.cab x c hfn hc)))).trans (I.base.keep b o e n hb hx)
  ·obtain ⟨sl,e1⟩:=I.base.slot b o e n hb hx;exact ⟨sl,(hs.2 b (zaw (zag (zal e) (I.ok.cab x c hfn hc)))).trans e1⟩
  ·obtain ⟨o',e1⟩:=I.base.there b o e hx;exact ⟨o',(hs.2 b (zaw (zag (zal e) (I.ok.cab x c hfn hc)))).trans e1⟩
  ·by_cases hj:j=i
   ·subst hj;rw [hi] at e1; cases e1;rw [zaN hiσ] at e2;cases e2;exact ⟨u,r,.inr ⟨.inl hk,c,hc,hc'⟩⟩
   ·rw [zaM (Ne.symm hj)] at e2;obtain ⟨u',r',q⟩:=hl j y v' e1 e2 e3;refine ⟨u',r',?_⟩;rcases q with q | ⟨k,c',e,z'⟩
    ·exact .inl q
    ·refine .inr ⟨k,c',e,z'.sameBut hs ?_⟩;rintro rfl;exact hj (k4 hN e1 (I.ok.inj _ _ _ e hc ▸ hi))
  ·by_cases hcc:c'=c
   ·subst hcc; exact ⟨_,hc'⟩
   ·obtain ⟨w2,z2⟩:=I.cell y c' e;exact ⟨w2,z2.sameBut hs hcc⟩
  ·obtain ⟨e,n,ne,nf,d⟩:=I.pin p hp;refine ⟨(hs.2 p.1 ?_).trans e,n,ne,nf,d⟩;intro q;rw [q,hoc] at e;have q':oc=p.2:=zat e;exact d w' (by rw [<- q']; exact hocd)
def kP {M:Model} {A:Around} {E:Value->Shared->Prop} {i:Nat} {x:Str} {v:V} {u:Value} {Q:Unit->Shared->Prop} (I:Inv X pins σ H s) (hN:X.N.Nodup) (hi:X.N[i]?=some x) (hx:Loc X.env.scope x) (r:RelV v u)
  (h:∀ s',Inv X pins (σ.set i (some v)) H s'->Q () s') (hf:X.fn x=true\/X.env.scope.names.lookup x=some .local:=by first | exact .inl rfl | exact .inr rfl | assumption):wpAny M A (storeName X.env x u) Q E s :=
 j3 I hN hi hx r (fun s' I' _=>h s' I') hf
def Inv.call' {s':Shared} {ch:List Addr} (I:Inv X pins σ H s) (ho:s'.os=s.os) (u:Un (frs X.stack) ch H H' s.heap s'.heap) (hok:HOk X.prog X.w H' s'.heap) (hg:AllBare s'.gens)
  (hch:∀ b∈ch,(b∈X.ex\/X.s₀.heap.objs.size<=b)/\b≠X.env.locals/\(∀ x c,X.env.cells.lookup x=some c->c≠b)/\∀ p∈X.pn++pins,p.1≠b):Inv X pins σ H' s':=by
 obtain ⟨h',g',d',t',o'⟩:=s';have e:o'=s.os:=ho;subst e;exact I.call (g':=g') (t':=t') (d':=d') u hok hg hch
end
abbrev XK:=Value->Option Addr->Hp->Prop
abbrev St:=List (Option V)
abbrev VK:=V->Hp->Prop
abbrev TE:=St->Hp->VK->Prop
abbrev TT:=St->Hp->(Bool->Hp->Prop)->Prop
abbrev TA:=St->Hp->(List V->Hp->Prop)->Prop
structure Ends where
 nx:St->Hp->Prop
 rt:VK
 bk:St->Hp->Prop:=fun _ _=>False
 ct:St->Hp->Prop:=fun _ _=>False
abbrev TS:=Ends->St->Hp->Prop
def EP (X:Cx) (pins:List (Addr × Obj)) (σ:St) (Q:VK) (u:Value) (s':Shared):Prop:=∃ v H',Inv X pins σ H' s'/\RelV v u/\Q v H'
def TP (X:Cx) (pins:List (Addr × Obj)) (σ:St) (Q:Bool->Hp->Prop) (b:Bool) (s':Shared):Prop:=∃ H',Inv X pins σ H' s'/\Q b H'
def AP (X:Cx) (pins:List (Addr × Obj)) (σ:St) (Q:List V->Hp->Prop) (us:List Value) (s':Shared):Prop:=∃ vs H',Inv X pins σ H' s'/\Vals vs us/\Q vs H'
def SP (X:Cx) (pins:List (Addr × Obj)) (D:Ends) (f:Flow) (s':Shared):Prop :=
 match f with
 | .next=>∃ σ' H',Inv X pins σ' H' s'/\D.nx σ' H'
 | .brk=>∃ σ' H',Inv X pins σ' H' s'/\D.bk σ' H'
 | .cont=>∃ σ' H',Inv X pins σ' H' s'/\D.ct σ' H'
 | .ret u=>∃ v σ' H',Inv X pins σ' H' s'/\RelV v u/\D.rt v H'
def PE (X:Cx) (e:Expr) (t:TE):Prop :=
 ∀ (pins:List (Addr × Obj)) (s:Shared) (σ:St) (H:Hp) (Q:VK),Inv X pins σ H s->t σ H Q->wpAny (model X.prog X.w) X.A (eval e X.env) (EP X pins σ Q) X.xe s
def PT (X:Cx) (e:Expr) (t:TT):Prop :=
 ∀ (pins:List (Addr × Obj)) (s:Shared) (σ:St) (H:Hp) (Q:Bool->Hp->Prop),Inv X pins σ H s->t σ H Q->wpAny (model X.prog X.w) X.A (isTrue e X.env (eval e X.env)) (TP X pins σ Q) X.xe s
def PW (X:Cx) (e:Expr) (t:TT):Prop :=
 ∀ (whole:Sem Value) (pins:List (Addr × Obj)) (s:Shared) (σ:St) (H:Hp) (Q:Bool->Hp->Prop),Inv X pins σ H s->t σ H Q->wpAny (model X.prog X.w) X.A (isTrue e X.env whole) (TP X pins σ Q) X.xe s
def PW.pt {X:Cx} {e:Expr} {t:TT} (h:PW X e t):PT X e t:=h _
def PA (X:Cx) (es:List Expr) (t:TA):Prop :=
 ∀ (pos:Pos) (pins:List (Addr × Obj)) (s:Shared) (σ:St) (H:Hp) (Q:List V->Hp->Prop),Inv X pins σ H s->t σ H Q->wpAny (model X.prog X.w) X.A (spliced (backTo pos (starEach es X.env))) (AP X pins σ Q) X.xe s
def PS (X:Cx) (st:Stmt) (t:TS):Prop :=
 ∀ (pins:List (Addr × Obj)) (s:Shared) (σ:St) (H:Hp) (D:Ends),Inv X pins σ H s->t D σ H->wpAny (model X.prog X.w) X.A (exec st X.env) (SP X pins D) X.xe s
def PSs (X:Cx) (st:List Stmt) (t:TS):Prop :=
 ∀ (pins:List (Addr × Obj)) (s:Shared) (σ:St) (H:Hp) (D:Ends),Inv X pins σ H s->t D σ H->wpAny (model X.prog X.w) X.A (execs st X.env) (SP X pins D) X.xe s
def thn {α:Type} {t:Sem α} {Q Q':α->Shared->Prop} {M:Model} {A:Around} {E:Value->Shared->Prop} {s:Shared} (h:wpAny M A t Q E s) (hQ:∀ a s,Q a s->Q' a s):wpAny M A t Q' E s:=wpAny_mono h hQ fun _ _ x=>x
section
variable {X:Cx}
def cR (i:Nat):TE:=fun σ H Q=>∃ v,σ[i]?=some (some v)/\Q v H
def tC (v:V):TE:=fun _ H Q=>Q v H
def bG {i:Nat} {x:Str} {pos:Pos} (hN:X.N[i]?=some x) (hv:Vis X.env.scope x) (hd:(x == ("__debug__" : Str))=false:=by decide) (hcd:(x == ("__classdict__" : Str))=false:=by decide):PE X (.Name x pos) (cR i):=by
 intro pins s σ H Q I h;obtain ⟨v,e,h⟩:=h;obtain ⟨m,hn,hl⟩:=I.loc;obtain ⟨u,r,l⟩:=hl i x v hN e hv;have fin:EP X pins σ Q u s:=⟨v,H,I,r,h⟩;rcases l with ⟨hk,hm⟩ | ⟨hk,c,hc,hcell⟩
 ·exact wpAny_Name (wpAny_loadName_local I.ok.kind hk hn hm fin) hd
 ·rcases hk with hk | hk
  ·exact wpAny_Name (wpAny_loadName_cell I.ok.kind hk hc hcell fin) hd
  ·exact wpAny_Name (wpAny_loadName_free I.ok.kind hk hc hcell fin hcd) hd
def pe_int {i j pos}:PE X (.Constant (.int i) j pos) (tC (.int i)):=fun _ _ _ H _ I h=>wpAny_Constant_int ⟨.int i,H,I.tok _,⟨_,rfl⟩,h⟩
def pe_bl {b j pos}:PE X (.Constant (.bool b) j pos) (tC (.bl b)):=fun _ _ _ H _ I h=>Constant_bool ⟨.bl b,H,I,rfl,h⟩
def pe_non {j pos}:PE X (.Constant .none j pos) (tC .non):=fun _ _ _ H _ I h=>Constant_none ⟨.non,H,I,rfl,h⟩
def Gl (X:Cx) (x:Str):Prop:=X.env.kindOf x=some .globalImplicit
def xm {E:Value->Shared->Prop} {pins:List (Addr × Obj)} {s:Shared} {σ:St} {H:Hp} {x:Str} {u:Value} {pos:Pos} {Q:Value->Shared->Prop} (I:Inv X pins σ H s) (hg:Gl X x) (hm:X.mg x=some u) (h:Q u s)
  (hd:(x == ("__debug__" : Str))=false:=by decide):wpAny (model X.prog X.w) X.A (eval (.Name x pos) X.env) Q E s :=
 Calls.Name_function_global I.ok.kind hg (Calls.loadGlobal_global (by rw [I.ok.glob]; exact I.mod.glob.keeps I.bk) hm h) hd
def eB {E:Value->Shared->Prop} {pins:List (Addr × Obj)} {s:Shared} {σ:St} {H:Hp} {x:Str} {u:Value} {pos:Pos} {Q:Value->Shared->Prop} (I:Inv X pins σ H s) (hg:Gl X x) (hm:X.mg x=none) (hv:bootBuiltins x=some u) (h:Q u s)
  (hn:x≠"__name__":=by decide) (hd:(x == ("__debug__" : Str))=false:=by decide):wpAny (model X.prog X.w) X.A (eval (.Name x pos) X.env) Q E s:=by
 obtain ⟨mb,h1,h2⟩:=I.mod.blt;exact Calls.Name_function_global I.ok.kind hg (Calls.loadGlobal_builtin (by rw [I.ok.glob]; exact I.mod.glob.keeps I.bk) hm (by rw [I.ok.blt]; exact h1.keeps I.bk) ((h2 x hn).trans hv) h) hd
def xf {x:Str} {v:V} {u:Value} {pos:Pos} (hg:Gl X x) (hm:X.mg x=none) (hv:bootBuiltins x=some u) (r:RelV v u) (hn:x≠"__name__":=by decide) (hd:(x == ("__debug__" : Str))=false:=by decide):PE X (.Name x pos) (tC v) :=
 fun _ _ _ H _ I h=>eB I hg hm hv ⟨v,H,I,r,h⟩ hn hd
variable {a b:Expr} {ta tb:TE} {pos:Pos}
def PC (X:Cx) (op:CmpOp) (a b:Expr) (t:TE):Prop :=
 ∀ (pins:List (Addr × Obj)) (s:Shared) (σ:St) (H:Hp) (Q:VK),Inv X pins σ H s->t σ H Q ->
  wpAny (model X.prog X.w) X.A (eval a X.env) (fun v s₁=>wpAny (model X.prog X.w) X.A (eval b X.env) (fun u s₂=>wpAny (model X.prog X.w) X.A (compareOp op v u) (EP X pins σ Q) X.xe s₂) X.xe s₁) X.xe s
def pZ (b:Expr) {op:CmpOp} (h:op≠.In) (h2:op≠.NotIn):behindInMarks op b=false:=by
 have e1:(op == CmpOp.In)=false:=by cases op <;> first | rfl | exact absurd rfl h
 have e2:(op == CmpOp.NotIn)=false:=by cases op <;> first | rfl | exact absurd rfl h2
 cases b <;> simp [behindInMarks,e1,e2]
def tB (t:TE):TT:=fun σ H Q=>t σ H fun x H1=>∃ c,x=.bl c/\Q c H1
def AQ {op:CmpOp} {t:TE} (h:PC X op a b t) (h1:behindInMarks op b=false:=by first | exact pZ _ (by decide) (by decide) | rfl):PT X (.Compare a [op] [b] pos) (tB t):=by
 intro pins s σ H Q I hw;refine wpAny_isTrue_Compare1 (thn (h pins s σ H _ I hw) fun v s1 h1=>thn h1 fun u s2 h2=>thn h2 fun c s3 ⟨x,H1,I1,r1,q1⟩=>?_) h1;obtain ⟨d,rfl,q⟩:=q1;cases r1;exact wpAny_truthy_bool ⟨H1,I1,q⟩
def AN {e:Expr} {t:TE} (h:PE X e t) (he:∀ whole,isTrue e X.env whole=(do let v <- whole; standAt e.pos; holding [v] (truthy v)):=by intro _; rfl):PT X e (tB t):=by
 intro pins s σ H Q I hw;refine isTrue_plain (thn (h pins s σ H _ I hw) fun v s1 ⟨x,H1,I1,r1,q1⟩=>?_) (he _);obtain ⟨d,rfl,q⟩:=q1;cases r1;exact wpAny_truthy_bool ⟨H1,I1,q⟩
variable {tA tB':TT} {rest:List Expr}
def AC (t u:TT):TT:=fun σ H Q=>t σ H fun c H1=>if c=true then u σ H1 Q else Q false H1
def tOr (t u:TT):TT:=fun σ H Q=>t σ H fun c H1=>if c=true then Q true H1 else u σ H1 Q
def Ax (t:TT):TT:=fun σ H Q=>t σ H fun c H1=>Q (!c) H1
def wU (ha:PT X a tA):PW X (.BoolOp .And [a] pos) tA:=by
 intro wh pins s σ H Q I h;refine isTrue_and (thn (ha pins s σ H Q I h) fun c s1 e=>?_);cases c with
 | true=>exact isTrue_and_nil e
 | false=>exact e
def AK (ha:PT X a tA):PW X (.BoolOp .Or [a] pos) tA:=by
 intro wh pins s σ H Q I h;refine isTrue_or (thn (ha pins s σ H Q I h) fun c s1 e=>?_);cases c with
 | false=>exact isTrue_or_nil e
 | true=>exact e
def AL (ha:PT X a tA) (hb:PW X (.BoolOp .And (b :: rest) pos) tB'):PW X (.BoolOp .And (a :: b :: rest) pos) (AC tA tB'):=by
 intro wh pins s σ H Q I h;refine isTrue_and (thn (ha pins s σ H _ I h) fun c s1 ⟨H1,I1,q1⟩=>?_);cases c with
 | true=>exact hb wh pins s1 σ H1 Q I1 q1
 | false=>exact ⟨H1,I1,q1⟩
def CC (ha:PT X a tA) (hb:PW X (.BoolOp .Or (b :: rest) pos) tB'):PW X (.BoolOp .Or (a :: b :: rest) pos) (tOr tA tB'):=by
 intro wh pins s σ H Q I h;refine isTrue_or (thn (ha pins s σ H _ I h) fun c s1 ⟨H1,I1,q1⟩=>?_);cases c with
 | true=>exact ⟨H1,I1,q1⟩
 | false=>exact hb wh pins s1 σ H1 Q I1 q1
def AO (ha:PT X a tA):PT X (.UnaryOp .Not a pos) (Ax tA):=by
 intro pins s σ H Q I h;exact isTrue_not (ha pins s σ H (fun c H1=>Q (!c) H1) I h)
def wl (ta tb:TE):TE:=fun σ H Q=>ta σ H fun x H1=>∃ c,x=.bl c/\if c=true then tb σ H1 Q else Q (.bl false) H1
def Aw (ta tb:TE):TE:=fun σ H Q=>ta σ H fun x H1=>∃ c,x=.bl c/\if c=true then Q (.bl true) H1 else tb σ H1 Q
def wf (ta:TE):TE:=fun σ H Q=>ta σ H fun x H1=>∃ c,x=.bl c/\Q (.bl (!c)) H1
def AY {op} {t:TE} (h:PE X a t):PE X (.BoolOp op [a] pos) t:=fun pins s σ H Q I hw=>BoolOp_one (h pins s σ H Q I hw)
def A4 (ha:PE X a ta) (hb:PE X (.BoolOp .And (b :: rest) pos) tb):PE X (.BoolOp .And (a :: b :: rest) pos) (wl ta tb):=by
 intro pins s σ H Q I h;refine BoolOp_and (thn (ha pins s σ H _ I h) fun v s1 ⟨x,H1,I1,r1,q1⟩=>?_);obtain ⟨c,rfl,q1⟩:=q1;cases r1;refine wpAny_truthy_bool ?_;cases c with
 | true=>exact hb pins s1 σ H1 Q I1 q1
 | false=>exact ⟨.bl false,H1,I1,rfl,q1⟩
def CH (ha:PE X a ta) (hb:PE X (.BoolOp .Or (b :: rest) pos) tb):PE X (.BoolOp .Or (a :: b :: rest) pos) (Aw ta tb):=by
 intro pins s σ H Q I h;refine BoolOp_or (thn (ha pins s σ H _ I h) fun v s1 ⟨x,H1,I1,r1,q1⟩=>?_);obtain ⟨c,rfl,q1⟩:=q1;cases r1;refine wpAny_truthy_bool ?_;cases c with
 | false=>exact hb pins s1 σ H1 Q I1 q1
 | true=>exact ⟨.bl true,H1,I1,rfl,q1⟩
def AZ (ha:PE X a ta):PE X (.UnaryOp .Not a pos) (wf ta):=by
 intro pins s σ H Q I h;refine UnaryOp_ (thn (ha pins s σ H _ I h) fun v s1 ⟨x,H1,I1,r1,q1⟩=>?_);obtain ⟨c,rfl,q1⟩:=q1;cases r1;exact not_of (wpAny_truthy_bool ⟨.bl (!c),H1,I1,rfl,q1⟩)
end
def SqL (K:PySem.W.Frag) (H:Hp) (a:Addr) (xs:List V):Prop :=
 Rd H a (.lst xs) \/
  ∃ (o:Obj) (its:Array Value) (n:Nat),K.lookup a=some o/\o.cls=.type "list"/\o.dict=none/\o.data=.seq its n/\its.size<=sizeLine/\Vals xs its.toList
def SqT (K:PySem.W.Frag) (H:Hp) (a:Addr) (xs:List V):Prop :=
 Rd H a (.tup xs) \/
  ∃ (o:Obj) (its:Array Value) (n:Nat),K.lookup a=some o/\o.cls=.type "tuple"/\o.data=.seq its n/\its.size<=sizeLine/\Vals xs its.toList
def DI:Value->Option V
 | .none=>some .non
 | .bool b=>some (.bl b)
 | .int i _=>some (.int i)
 | .str x _=>some (.str x)
 | .bytes b _=>some (.byt b)
 | .float b _=>some (.flt b)
 | .ref a=>some (.ref a)
 | .type n=>some (.ty n)
 | _=>none
def RelV.abs {x:V} {u:Value} (r:RelV x u):DI u=some x:=by
 cases x with
 | non=>cases r; rfl
 | bl _=>cases r; rfl
 | int _=>obtain ⟨t,rfl⟩:=r; rfl
 | str _=>obtain ⟨t,rfl⟩:=r; rfl
 | byt _=>obtain ⟨t,rfl⟩:=r; rfl
 | flt _=>obtain ⟨t,rfl⟩:=r; rfl
 | ref _=>cases r; rfl
 | ty _=>cases r; rfl
def RelV.inj {x y:V} {u:Value} (r:RelV x u) (q:RelV y u):x=y:=zat (r.abs.symm.trans q.abs)
def Vals.inj:∀ {xs ys:List V} {us:List Value},Vals xs us->Vals ys us->xs=ys
 | _,_,_,.nil,.nil=>rfl
 | _,_,_,.cons r t,.cons r' t'=>by rw [r.inj r',Vals.inj t t']
section
variable {X:Cx} {pins:List (Addr × Obj)} {σ:St} {H:Hp} {s:Shared} {a:Addr} {xs ys:List V}
def SqL.of {K:PySem.W.Frag} (h:H a=some (.lst xs)):SqL K H a xs:=.inl (.inl h)
def SqT.of {K:PySem.W.Frag} (h:H a=some (.tup xs)):SqT K H a xs:=.inl (.inl h)
def Inv.list (I:Inv X pins σ H s) (h:SqL X.K H a xs):∃ its:List Value,Vals xs its/\PlainL s.heap a its.toArray/\xs.length<=sizeLine:=by
 rcases h with h | ⟨o,its,n,hk,hc,hd,hs,hz,r⟩
 ·obtain ⟨z,its,n,r,e⟩:=h.ok I.hok;exact ⟨its,r,⟨_,n,e,rfl,rfl,rfl⟩,z⟩
 ·refine ⟨its.toList,r,⟨o,n,I.kIn a o hk,hc,hd,by simpa using hs⟩,?_⟩;have e:=r.length;simp only [zaW] at e;omega
def Inv.tuple (I:Inv X pins σ H s) (h:SqT X.K H a xs):∃ its:List Value,Vals xs its/\IsTup s.heap a its.toArray/\xs.length<=sizeLine:=by
 rcases h with h | ⟨o,its,n,hk,hc,hs,hz,r⟩
 ·obtain ⟨z,its,r,p⟩:=h.ok I.hok;exact ⟨its,r,p.tup,z⟩
 ·refine ⟨its.toList,r,⟨o,I.kIn a o hk,hc,n,by simpa using hs⟩,?_⟩;have e:=r.length;simp only [zaW] at e;omega
def Inv.list_inj (I:Inv X pins σ H s) (h:SqL X.K H a xs) (h':SqL X.K H a ys):xs=ys:=by
 obtain ⟨its,r,⟨o,n,e,_,_,d⟩,_⟩:=I.list h;obtain ⟨its',r',⟨o',n',e',_,_,d'⟩,_⟩:=I.list h';rw [e] at e'; cases e';rw [d] at d';injection d' with d1 _
 have:its=its':=by simpa using congrArg Array.toList d1
 subst this;exact r.inj r'
def Inv.tuple_inj (I:Inv X pins σ H s) (h:SqT X.K H a xs) (h':SqT X.K H a ys):xs=ys:=by
 obtain ⟨its,r,⟨o,e,_,n,d⟩,_⟩:=I.tuple h;obtain ⟨its',r',⟨o',e',_,n',d'⟩,_⟩:=I.tuple h';rw [e] at e'; cases e';rw [d] at d';injection d' with d1 _
 have:its=its':=by simpa using congrArg Array.toList d1
 subst this;exact r.inj r'
end
abbrev Cx.wish (X:Cx) (E:Value->Shared->Prop):Cx:={ X with xe:=E }
abbrev Cx.nox (X:Cx):Cx:=X.wish fun _ _=>False
def Cx.Ok.wish {X:Cx} (ok:X.Ok) (E:Value->Shared->Prop):(X.wish E).Ok :=
 ⟨ok.mod,ok.kind,ok.glob,ok.blt,ok.above,ok.inj,ok.has,ok.cab,ok.hd,ok.frames,ok.stk,ok.exf,ok.bs,ok.bsz,ok.noex,ok.exfs,ok.funs,ok.frf⟩
def Cx.Ok.unwish {X:Cx} {E:Value->Shared->Prop} (ok:(X.wish E).Ok):X.Ok :=
 ⟨ok.mod,ok.kind,ok.glob,ok.blt,ok.above,ok.inj,ok.has,ok.cab,ok.hd,ok.frames,ok.stk,ok.exf,ok.bs,ok.bsz,ok.noex,ok.exfs,ok.funs,ok.frf⟩
section
variable {X:Cx} {pins:List (Addr × Obj)} {σ:St} {H:Hp} {s:Shared} {E:Value->Shared->Prop}
def Inv.wish (I:Inv X pins σ H s) (E:Value->Shared->Prop):Inv (X.wish E) pins σ H s:=⟨I.ok.wish E,I.os,I.bare,I.base,I.loc,I.cell,I.free,I.freeC,I.pin,I.hok,I.len⟩
def Inv.unwish (I:Inv (X.wish E) pins σ H s):Inv X pins σ H s:=⟨I.ok.unwish,I.os,I.bare,I.base,I.loc,I.cell,I.free,I.freeC,I.pin,I.hok,I.len⟩
def SP.unwish {D:Ends} {f:Flow} {s':Shared} (h:SP (X.wish E) pins D f s'):SP X pins D f s':=by
 cases f with
 | next=>obtain ⟨σ',H',I,q⟩:=h; exact ⟨σ',H',I.unwish,q⟩
 | brk=>obtain ⟨σ',H',I,q⟩:=h; exact ⟨σ',H',I.unwish,q⟩
 | cont=>obtain ⟨σ',H',I,q⟩:=h; exact ⟨σ',H',I.unwish,q⟩
 | ret u=>obtain ⟨v,σ',H',I,r,q⟩:=h; exact ⟨v,σ',H',I.unwish,r,q⟩
def PSs.nox {st:List Stmt} {t:TS} (h:PSs X.nox st t):PSs X st t:=fun pins s σ H D I hw =>
 wpAny_mono (h pins s σ H D (I.wish _) hw) (fun _ _ q=>q.unwish) fun _ _ z=>False.elim z
end
section
variable {X:Cx} {st:Stmt} {rest:List Stmt} {t u:TS} {e:Expr} {te:TE} {pos:Pos}
def wg:TS:=fun D σ H=>D.nx σ H
def Au (t u:TS):TS:=fun D σ H=>t { D with nx:=u D } σ H
def pss_nil:PSs X [] wg:=fun _ _ σ H _ I h=>wpAny_execs_nil ⟨σ,H,I,h⟩
def pS (h1:PS X st t) (h2:PSs X rest u):PSs X (st :: rest) (Au t u):=by
 intro pins s σ H D I h;refine wpAny_execs_cons (thn (h1 pins s σ H { D with nx:=u D } I h) fun f s1 q=>?_);cases f with
 | next =>
  obtain ⟨σ',H',I',q⟩:=q;exact h2 pins s1 σ' H' D I' q
 | ret v=>exact q
 | brk=>exact q
 | cont=>exact q
def wY (h1:PS X st t):PSs X [st] t:=by
 intro pins s σ H D I h;refine wpAny_execs_cons (thn (h1 pins s σ H D I h) fun f s1 q=>?_);cases f with
 | next=>exact wpAny_execs_nil q
 | ret v=>exact q
 | brk=>exact q
 | cont=>exact q
def Inv.quiet {pins:List (Addr × Obj)} {σ:St} {H:Hp} {s:Shared} (I:Inv X pins σ H s):interactive X.env=false:=by simp [interactive,I.ok.kind]
def wj (te:TE):TS:=fun D σ H=>te σ H fun _ H1=>D.nx σ H1
def wZ (he:PE X e te) (hs:swapsWith e none pos.line X.env=pure false:=by rfl):PS X (.Expr e pos) (wj te):=by
 intro pins s σ H D I h;exact wpAny_Expr_any (thn (he pins s σ H _ I h) fun v s1 ⟨x,H1,I1,r1,q1⟩=>⟨σ,H1,I1,q1⟩) I.quiet hs
def Av (te:TE):TS:=fun D σ H=>te σ H D.rt
def AT (he:PE X e te):PS X (.Return (some e) pos) (Av te):=by
 intro pins s σ H D I h;exact wpAny_Return_some (thn (he pins s σ H _ I h) fun v s1 ⟨x,H1,I1,r1,q1⟩=>⟨x,σ,H1,I1,r1,q1⟩)
def Az (c:TT) (t u:TS):TS:=fun D σ H=>c σ H fun b H1=>if b=true then t D σ H1 else u D σ H1
def CF {c:Expr} {a b:List Stmt} {tc:TT} (hc:PT X c tc) (ha:PSs X a t) (hb:PSs X b u):PS X (.If c a b pos) (Az tc t u):=by
 intro pins s σ H D I h;refine wpAny_If (thn (hc pins s σ H _ I h) fun d s1 ⟨H1,I1,q1⟩=>?_);cases d with
 | true=>exact ha pins s1 σ H1 D I1 q1
 | false=>exact hb pins s1 σ H1 D I1 q1
end
abbrev TG:=V->St->Hp->(St->Hp->Prop)->Prop
abbrev TGs:=List V->St->Hp->(St->Hp->Prop)->Prop
def PG (X:Cx) (target:Expr) (t:TG):Prop :=
 ∀ (pins:List (Addr × Obj)) (s:Shared) (σ:St) (H:Hp) (v:V) (u:Value) (Q:St->Hp->Prop),Inv X pins σ H s->RelV v u->t v σ H Q ->
  wpAny (model X.prog X.w) X.A (assign target X.env u) (fun _ s'=>∃ σ' H',Inv X pins σ' H' s'/\Q σ' H') X.xe s
def PGs (X:Cx) (ts:List Expr) (t:TGs):Prop :=
 ∀ (pins:List (Addr × Obj)) (s:Shared) (σ:St) (H:Hp) (vs:List V) (us:List Value) (Q:St->Hp->Prop),Inv X pins σ H s->Vals vs us->t vs σ H Q ->
  wpAny (model X.prog X.w) X.A (assignInOrder ((assignEach ts X.env).map (·.2)) us) (fun _ s'=>∃ σ' H',Inv X pins σ' H' s'/\Q σ' H') X.xe s
abbrev qS:=V->V->V->Hp->(Hp->Prop)->Prop
def Cq (X:Cx) (t:qS):Prop :=
 ∀ (pins:List (Addr × Obj)) (s:Shared) (σ:St) (H:Hp) (o i v:V) (ov iv u:Value) (Q:Hp->Prop),Inv X pins σ H s->RelV o ov->RelV i iv->RelV v u->t o i v H Q ->
  wpAny (model X.prog X.w) X.A (setItem ov iv u) (fun _ s'=>∃ H',Inv X pins σ H' s'/\Q H') X.xe s
section
variable {X:Cx} {pos:Pos}
def iu (i:Nat):TG:=fun v σ H Q=>Q (σ.set i (some v)) H
def mn {i:Nat} {x:Str} (hN:X.N.Nodup) (hi:X.N[i]?=some x) (hx:Loc X.env.scope x) (hf:X.fn x=true\/X.env.scope.names.lookup x=some .local:=by first | exact .inl rfl | exact .inr rfl | assumption):PG X (.Name x pos) (iu i):=by
 intro pins s σ H v u Q I r h;exact wpAny_assign_Name (kP I hN hi hx r (fun s' I'=>⟨_,H,I',h⟩) hf)
def Bx:TGs:=fun vs σ H Q=>vs=[]/\Q σ H
def wH (t:TG) (u:TGs):TGs:=fun vs σ H Q=>∃ v r,vs=v :: r/\t v σ H fun σ' H'=>u r σ' H' Q
def pgs_nil:PGs X [] Bx:=by
 intro pins s σ H vs us Q I r h;obtain ⟨e,h⟩:=h;subst e;cases r;exact assignInOrder_nil ⟨σ,H,I,h⟩
def pU {e:Expr} {es:List Expr} {t:TG} {u:TGs} (h1:PG X e t) (h2:PGs X es u)
  (hs:(assignEach (e :: es) X.env).map (·.2)=assign e X.env :: (assignEach es X.env).map (·.2):=by rfl):PGs X (e :: es) (wH t u):=by
 intro pins s σ H vs us Q I r h;obtain ⟨v,vr,e1,h⟩:=h;subst e1;cases r with
 | cons r rr =>
  rw [hs];refine assignInOrder_cons (thn (h1 pins s σ H _ _ _ I r h) fun _ s1 ⟨σ1,H1,I1,q1⟩=>?_);exact h2 pins s1 σ1 H1 _ _ Q I1 rr q1
def Bv (K:PySem.W.Frag) (n:Nat) (t:TGs):TG:=fun v σ H Q=>∃ a xs,v=.ref a/\SqT K H a xs/\xs.length=n/\t xs σ H Q
def AV {es:List Expr} {k:Nat} {t:TGs} {n:Nat} (hc:X.calm=true) (h:PGs X es t)
  (hn:(assignEach es X.env).length=n:=by rfl) (hst:(assignEach es X.env).findIdx? (·.1)=none:=by rfl):PG X (.Tuple es k pos) (Bv X.K n t):=by
 intro pins s σ H v u Q I r hw;obtain ⟨a,xs,e1,hq,hl,hw⟩:=hw;subst e1;cases r;obtain ⟨its,rv,ht,hz⟩:=I.tuple hq;refine assign_Tuple_tuple (I.ok.hd hc) ht (by simp [hn,<- hl,rv.length]) hst fun h' hx=>?_;have I1:Inv X pins σ H { s with heap:=h' }:=I.kept (t':=s.toks) fun b o e=>hx b o (zaw (zal e)) e;exact h pins _ σ H xs _ Q I1 (by simpa using rv) hw
def Bw (to ti:TE) (t:qS):TG:=fun v σ H Q=>to σ H fun o H1=>ti σ H1 fun i H2=>t o i v H2 fun H3=>Q σ H3
def AW {o i:Expr} {to ti:TE} {t:qS} (ho:PE X o to) (hi:PE X i ti) (hs:Cq X t)
  (ha:∀ v,assign (.Subscript o i pos) X.env v=(do
   let ov <- holding [v] (eval o X.env);let iv <- holding [v,ov] (eval i X.env)
   standAt pos
   holding [v,ov,iv] (setItem ov iv v)
   release [v,ov,iv] []):=by intro _; rfl):PG X (.Subscript o i pos) (Bw to ti t):=by
 intro pins s σ H v u Q I r h;rw [ha];refine zam (wpAny_holding (thn (ho pins s σ H _ I h) fun ov s1 ⟨x,H1,I1,r1,q1⟩=>?_));refine zam (wpAny_holding (thn (hi pins s1 σ H1 _ I1 q1) fun iv s2 ⟨y,H2,I2,r2,q2⟩=>?_));refine zam (wpAny_standAt (zam (wpAny_holding (thn (hs pins s2 σ H2 x y v ov iv u _ I2 r1 r2 r q2) fun _ s3 ⟨H3,I3,q3⟩=>?_))));exact wpAny_release ⟨σ,H3,I3,q3⟩
def kO (te:TE) (g:TG):TS:=fun D σ H=>te σ H fun x H1=>g x σ H1 D.nx
def AU {tg e:Expr} {te:TE} {g:TG} (he:PE X e te) (hg:PG X tg g) (hs:swapsWithSole [tg] e pos.line X.env=pure false:=by rfl) (hw:swappedStores [tg] e X.env=pure none:=by rfl)
  (h1:(assignEach [tg] X.env).map (·.2)=[assign tg X.env]:=by rfl):PS X (.Assign [tg] e pos) (kO te g):=by
 intro pins s σ H D I h;refine wpAny_Assign_stores (thn (he pins s σ H _ I h) fun v s1 ⟨x,H1,I1,r1,q1⟩=>?_) hs hw;rw [h1];exact thn (hg pins s1 σ H1 x v _ I1 r1 q1) fun _ s2 q=>q
def AR {i:Nat} {x:Str} {e:Expr} {te:TE} {pos':Pos} (hN:X.N.Nodup) (hi:X.N[i]?=some x) (hx:Loc X.env.scope x) (he:PE X e te) (hs:swapsWith e (some (.Name x pos')) pos.line X.env=pure false:=by rfl) (hf:X.fn x=true\/X.env.scope.names.lookup x=some .local:=by first | exact .inl rfl | exact .inr rfl | assumption) :
  PS X (.Assign [.Name x pos'] e pos) (kO te (iu i)):=by
 intro pins s σ H D I h;refine wpAny_Assign_Name (thn (he pins s σ H _ I h) fun v s1 ⟨y,H1,I1,r1,q1⟩=>?_) hs;exact kP I1 hN hi hx r1 (fun s2 I2=>⟨_,H1,I2,q1⟩) hf
def nP (c:TT) (tb:TS):TS:=fun D σ H=>∃ W:Nat->St->Hp->Prop,(∃ m,W m σ H)/\∀ m σ H,W m σ H ->
 c σ H fun b H1=>if b=true then ∃ N:St->Hp->Prop,(∀ σ' H',N σ' H'->∃ m',m' < m/\W m' σ' H')/\tb { D with nx:=N,ct:=N,bk:=D.nx } σ H1 else D.nx σ H1
def pT {c:Expr} {body:List Stmt} {tc:TT} {tb:TS} (hp:PassesOwn (model X.prog X.w) X.A X.env X.xe) (hc:PT X c tc) (hb:PSs X body tb):PS X (.While c body [] pos) (nP tc tb):=by
 intro pins s σ H D I h;obtain ⟨W,⟨m0,w0⟩,turn⟩:=h;refine wpAny_While (codeAny_whileLoop (fun n s'=>∃ σ' H',Inv X pins σ' H' s'/\W n σ' H') ?_ m0 ⟨σ,H,I,w0⟩);rintro n s1 ⟨σ1,H1,I1,w1⟩;refine wpAny_passesOwn hp (thn (hc pins s1 σ1 H1 _ I1 (turn n σ1 H1 w1)) fun b s2 ⟨H2,I2,q2⟩=>?_);cases b with
 | true =>
  obtain ⟨N,hN,q2⟩:=q2;rw [if_pos rfl];refine wpAny_passesOwn hp (thn (hb pins s2 σ1 H2 _ I2 q2) fun f s3 q3=>?_);cases f with
  | next =>
   obtain ⟨σ3,H3,I3,n3⟩:=q3;obtain ⟨m',hm,w3⟩:=hN σ3 H3 n3;exact ⟨m',hm,σ3,H3,I3,w3⟩
  | cont =>
   obtain ⟨σ3,H3,I3,n3⟩:=q3;obtain ⟨m',hm,w3⟩:=hN σ3 H3 n3;exact ⟨m',hm,σ3,H3,I3,w3⟩
  | brk=>exact q3
  | ret v=>exact q3
 | false =>
  rw [if_neg Bool.false_ne_true];exact wpAny_execs_nil ⟨σ1,H2,I2,q2⟩
end
structure It where
 go:Nat->Hp->Prop
 yld:Nat->Hp->V->Hp->Prop
 stop:Nat->Hp->Prop
def eQ (X:Cx) (pins:List (Addr × Obj)) (H:Hp) (b:Addr):Prop :=
 H b=none/\b≠X.env.locals/\b ∉ X.fs/\(b∈X.ex\/X.s₀.heap.objs.size<=b)/\(∀ x c,X.env.cells.lookup x=some c->c≠b)/\∀ p∈X.pn++pins,p.1≠b
def Inv.fpOk {X:Cx} {pins:List (Addr × Obj)} {σ:St} {H H':Hp} {s:Shared} {b:Addr} (I:Inv X pins σ H s) (hb:s.heap.objs.size<=b) (hn:H' b=none):eQ X pins H' b:=by
 refine ⟨hn,Nat.ne_of_gt (zag I.lt hb),I.nofs hb,.inr (zau I.sz hb),fun x c e z=>?_,fun p hp z=>?_⟩
 ·obtain ⟨v,q⟩:=I.cell x c e;exact absurd (zag q.lt (by rw [z]; exact hb)) (zaH _)
 ·exact absurd (zag (zal (I.pin p hp).1) (by rw [z]; exact hb)) (zaH _)
structure Turn (P:Program) (w:World) (K:PySem.W.Frag) (tg:Expr) (J:It) (fp:List Addr) (it:Addr) (tn:Nat->Heap->Prop):Prop where
 mem:it∈fp
 obj:∀ i h,tn i h->∀ b∈fp,∃ o,h.get? b=some o/\∀ v,o.data≠.cell v
 keep:∀ i h h',tn i h->(∀ b∈fp,∀ o,h.get? b=some o->h'.get? b=some o)->tn i h'
 item:∀ (X:Cx),X.prog=P->X.w=w->X.K=K->X.calm=true->∀ (i:Nat) (pins:List (Addr × Obj)) (s:Shared) (σ:St) (H:Hp) (E:Value->Shared->Prop),Inv X pins σ H s->(∀ b∈fp,eQ X pins H b)->tn i s.heap->J.go i H ->
  wpAny (model P w) X.A (pyNext (.ref it)) (fun r s1=>∃ u,r=some u /\
   wpAny (model P w) X.A (letOwnedTupleGo tg (.ref it) u) (fun _ s2=>∃ x H',Inv X pins σ H' s2/\RelV x u/\J.yld i H x H'/\tn (i+1) s2.heap/\∀ b∈fp,H' b=none) E s1) E s
 done:∀ (X:Cx),X.prog=P->X.w=w->X.K=K->X.calm=true->∀ (i:Nat) (pins:List (Addr × Obj)) (s:Shared) (σ:St) (H:Hp) (E:Value->Shared->Prop),Inv X pins σ H s->(∀ b∈fp,eQ X pins H b)->tn i s.heap->J.stop i H ->
  wpAny (model P w) X.A (pyNext (.ref it)) (fun r s1=>r=none/\Inv X pins σ H s1) E s
 self:∀ (A:Around) (i:Nat) (s:Shared) (Q:Value->Shared->Prop) (E:Value->Shared->Prop),tn i s.heap->Q (.ref it) s->wpAny (model P w) A (pyIter (.ref it)) Q E s
abbrev TI:=St->Hp->(It->Hp->Prop)->Prop
def PIE (X:Cx) (pins:List (Addr × Obj)) (σ:St) (tg:Expr) (R:It->Hp->Prop) (itv:Value) (s2:Shared):Prop :=
 ∃ (it:Addr) (fp:List Addr) (tn:Nat->Heap->Prop) (J:It) (H':Hp),itv=.ref it/\Inv X pins σ H' s2/\Turn X.prog X.w X.K tg J fp it tn/\tn 0 s2.heap/\(∀ b∈fp,eQ X pins H' b)/\R J H'
def PI (X:Cx) (tg iter:Expr) (wi:TI):Prop :=
 ∀ (pins:List (Addr × Obj)) (s:Shared) (σ:St) (H:Hp) (R:It->Hp->Prop),Inv X pins σ H s->wi σ H R ->
  wpAny (model X.prog X.w) X.A (eval iter X.env) (fun v s1=>wpAny (model X.prog X.w) X.A (pyIter v) (PIE X pins σ tg R) X.xe s1) X.xe s
def kA {M:Model} {A:Around} {E:Value->Shared->Prop} {s:Shared} {tg:Expr} {it:Addr} {u:Value} {o:Obj} {n:String} {vs:Array Value} {Q:Unit->Shared->Prop} (ho:s.heap.get? it=some o) (hc:o.cls=.type n) (hd:o.data=.fields vs)
  (hn:["enumerate", "zip", "dict_itemiterator", "dict_reverseitemiterator", "odict_iterator", "itertools.zip_longest", "itertools.pairwise"].contains n=false) (hQ:Q () s):wpAny M A (letOwnedTupleGo tg (.ref it) u) Q E s:=by
 unfold letOwnedTupleGo;cases tg <;> first
  | exact zaR hQ
  | (cases u <;> first
    | exact zaR hQ
    | (refine zam (wpAny_load ho ?_)
       rw [hc,hd];show wpAny M A (if (["enumerate", "zip", "dict_itemiterator", "dict_reverseitemiterator", "odict_iterator", "itertools.zip_longest", "itertools.pairwise"].contains n && vs[0]? == some (rawInt _))=true then _ else _) Q E s;rw [if_neg (by intro h; rw [hn,Bool.false_and] at h; cases h)];exact zaR hQ))
def Itl (K:PySem.W.Frag) (a:Addr):It :=
 ⟨fun i H=>∃ xs x,SqL K H a xs/\xs[i]?=some x,fun i H x H'=>H'=H/\∀ xs,SqL K H a xs->xs[i]?=some x,fun i H=>∃ xs,SqL K H a xs/\xs.length<=i⟩
def Itt (K:PySem.W.Frag) (a:Addr):It :=
 ⟨fun i H=>∃ xs x,SqT K H a xs/\xs[i]?=some x,fun i H x H'=>H'=H/\∀ xs,SqT K H a xs->xs[i]?=some x,fun i H=>∃ xs,SqT K H a xs/\xs.length<=i⟩
def Itr (lo:Int) (n:Nat):It:=⟨fun i _=>i < n,fun i H x H'=>H'=H/\x=.int (lo+i),fun i _=>n<=i⟩
def j1 {P:Program} {w:World} {K:PySem.W.Frag} {tg:Expr} (a it:Addr):Turn P w K tg (Itl K a) [it] it (fun i h=>h.IsListIter it a i) where
 mem:=by simp
 obj:=fun i h st b hb=>by
  have e:b=it:=by simpa using hb
  subst e;obtain ⟨o,e,c,d⟩:=st;exact ⟨o,e,fun v z=>by rw [d] at z; cases z⟩
 keep:=fun i h h' st k=>st.at fun o e=>k it (by simp) o e
 item:=by
  intro X hP hw hK hc i pins s σ H E I hf st hg;subst hP hw hK;obtain ⟨xs,x,hq,hx⟩:=hg;obtain ⟨its,rv,p,hz⟩:=I.list hq;obtain ⟨u,hu,ru⟩:=rv.get hx;obtain ⟨f0,f1,f2,f3,f4,f5⟩:=hf it (by simp);refine wpAny_pyNext_list_item st p.isList (x:=u) (by simpa using hu) fun h' st' sb=>?_;have I1:Inv X pins σ H { s with heap:=h' }:=I.turned (t':=s.toks) (fun b o hb e=>(sb.2 b hb).trans e) f0 f1 f3 f4 f5;obtain ⟨o,e,c,d⟩:=id st';exact ⟨u,rfl,kA (s:={ s with heap:=h' }) e c d (by decide) ⟨x,H,I1,ru,⟨rfl,fun ys hy=>by rw [I.list_inj hy hq]; exact hx⟩,st',fun b hb=>(hf b hb).1⟩⟩
 done:=by
  intro X hP hw hK hc i pins s σ H E I hf st hg;subst hP hw hK;obtain ⟨xs,hq,hx⟩:=hg;obtain ⟨its,rv,p,hz⟩:=I.list hq;obtain ⟨f0,f1,f2,f3,f4,f5⟩:=hf it (by simp);have hl:=rv.length;exact wpAny_pyNext_list_end (I.ok.hd hc) st p.isList (by simp; omega) fun h' eb=>⟨rfl,I.turned (t':=s.toks) (fun b o hb e=>eb b o hb e) f0 f1 f3 f4 f5⟩
 self:=fun _ _ _ _ _ st h=>wpAny_pyIter_listiter st h
def mT {P:Program} {w:World} {K:PySem.W.Frag} {tg:Expr} (a it:Addr):Turn P w K tg (Itt K a) [it] it (fun i h=>h.IsTupleIter it a i) where
 mem:=by simp
 obj:=fun i h st b hb=>by
  have e:b=it:=by simpa using hb
  subst e;obtain ⟨o,e,c,d⟩:=st;exact ⟨o,e,fun v z=>by rw [d] at z; cases z⟩
 keep:=fun i h h' st k=>st.at fun o e=>k it (by simp) o e
 item:=by
  intro X hP hw hK hc i pins s σ H E I hf st hg;subst hP hw hK;obtain ⟨xs,x,hq,hx⟩:=hg;obtain ⟨its,rv,p,hz⟩:=I.tuple hq;obtain ⟨u,hu,ru⟩:=rv.get hx;obtain ⟨f0,f1,f2,f3,f4,f5⟩:=hf it (by simp);refine wpAny_pyNext_tuple_item st (show s.heap.IsTuple a its.toArray from p) (x:=u) (by simpa using hu) fun h' st' sb=>?_;have I1:Inv X pins σ H { s with heap:=h' }:=I.turned (t':=s.toks) (fun b o hb e=>(sb.2 b hb).trans e) f0 f1 f3 f4 f5;obtain ⟨o,e,c,d⟩:=id st';exact ⟨u,rfl,kA (s:={ s with heap:=h' }) e c d (by decide) ⟨x,H,I1,ru,⟨rfl,fun ys hy=>by rw [I.tuple_inj hy hq]; exact hx⟩,st',fun b hb=>(hf b hb).1⟩⟩
 done:=by
  intro X hP hw hK hc i pins s σ H E I hf st hg;subst hP hw hK;obtain ⟨xs,hq,hx⟩:=hg;obtain ⟨its,rv,p,hz⟩:=I.tuple hq;obtain ⟨f0,f1,f2,f3,f4,f5⟩:=hf it (by simp);have hl:=rv.length;exact wpAny_pyNext_tuple_end (I.ok.hd hc) st (show s.heap.IsTuple a its.toArray from p) (by simp; omega) fun h' eb=>⟨rfl,I.turned (t':=s.toks) (fun b o hb e=>eb b o hb e) f0 f1 f3 f4 f5⟩
 self:=fun _ _ _ _ _ st h=>wpAny_pyIter_tupleiter st h
def mU {P:Program} {w:World} {K:PySem.W.Frag} {tg:Expr} (it:Addr) (lo:Int) (n:Nat):Turn P w K tg (Itr lo n) [it] it (fun i h=>IsRangeIter h it (lo+(i:Nat) * 1) ((n:Int) - (i:Nat)) 1) where
 mem:=by simp
 obj:=fun i h st b hb=>by
  have e:b=it:=by simpa using hb
  subst e;exact ⟨_,st,fun v z=>by
   have z':Data.fields _=Data.cell v:=z;cases z'⟩
 keep:=fun i h h' st k=>k it (by simp) _ st
 item:=by
  intro X hP hw hK hc i pins s σ H E I hf st hg;subst hP hw hK;obtain ⟨f0,f1,f2,f3,f4,f5⟩:=hf it (by simp);have W:=Walks.range (prog:=X.prog) (w:=X.w) (I.ok.hd hc) it lo 1 n;refine W.item i s _ _ hg st fun v h' tk hv st' kk=>?_;obtain ⟨t,rfl⟩:=hv;have I1:Inv X pins σ H { s with heap:=h',toks:=tk }:=I.turned (fun b o hb e=>kk b o (by simpa using hb) e) f0 f1 f3 f4 f5;refine ⟨_,rfl,kA (s:={ s with heap:=h',toks:=tk }) (n:="range_iterator") st' rfl rfl (by decide) ⟨.int (lo+i),H,I1,⟨t,?_⟩,⟨rfl,rfl⟩,st',fun b hb=>(hf b hb).1⟩⟩;rw [Int.mul_one]
 done:=by
  intro X hP hw hK hc i pins s σ H E I hf st hg;subst hP hw hK;obtain ⟨f0,f1,f2,f3,f4,f5⟩:=hf it (by simp);exact wpAny_pyNext_range_end (I.ok.hd hc) st (by have:n<=i:=hg; omega) fun h' eb=>⟨rfl,I.turned (t':=s.toks) (fun b o hb e=>eb b o hb e) f0 f1 f3 f4 f5⟩
 self:=fun _ _ _ _ _ st h=>wpAny_pyIter_rangeiter st h
section
variable {X:Cx} {tg:Expr}
def wF (K:PySem.W.Frag) (tl:TE):TI:=fun σ H R=>tl σ H fun x H1=>∃ a,x=.ref a/\(∃ xs,SqL K H1 a xs)/\R (Itl K a) H1
def w8 {l:Expr} {tl:TE} (hl:PE X l tl):PI X tg l (wF X.K tl):=by
 intro pins s σ H R I h;refine thn (hl pins s σ H _ I h) fun v s1 ⟨x,H1,I1,r1,q1⟩=>?_;obtain ⟨a,e,⟨xs,hq⟩,q⟩:=q1;subst e;cases r1;obtain ⟨its,rv,p,hz⟩:=I1.list hq;refine wpAny_pyIter_list p.isList ?_;refine ⟨s1.heap.objs.size,[s1.heap.objs.size],_,_,H1,rfl,I1.kept (t':=s1.toks) fun b o e=>zaf _ e,j1 a _,⟨_,zan _ rfl,rfl,rfl⟩,fun b hb=>?_,q⟩;have e:b=s1.heap.objs.size:=by simpa using hb
 subst e;exact I1.fpOk (zav _) (I1.hok.fresh (zav _))
def pQ {pins:List (Addr × Obj)} {σ:St} {H:Hp} {s:Shared} {R:It->Hp->Prop} {E:Value->Shared->Prop} {lo hi:Int} {t u v:Tok} {tk:Nat} (I:Inv X pins σ H s) (h1:-(2 ^ 62)<=lo) (h2:lo < 2 ^ 62) (h3:-(2 ^ 62)<=hi) (h4:hi < 2 ^ 62)
  (q:R (Itr lo (hi - lo).toNat) H):wpAny (model X.prog X.w) X.A (pyIter (.ref s.heap.objs.size)) (PIE X pins σ tg R) E { s with heap:=s.heap.push { cls:=.type "range",data:=.fields #[.int lo t,.int hi u,.int 1 v] },toks:=tk }:=by
 refine wpAny_pyIter_range (IsRange.new ..) (small_one h1 h2 h3 h4) ?_;have I1:Inv X pins σ H { s with heap:=s.heap.push { cls:=.type "range",data:=.fields #[.int lo t,.int hi u,.int 1 v] },toks:=tk }:=I.kept fun b o e=>zaf _ e;refine ⟨(s.heap.push { cls:=.type "range",data:=.fields #[.int lo t,.int hi u,.int 1 v] }).objs.size,[(s.heap.push { cls:=.type "range",data:=.fields #[.int lo t,.int hi u,.int 1 v] }).objs.size],_,_,H,rfl,
  I1.kept (t':=tk) fun b o e=>zaf _ e,mU _ lo (hi - lo).toNat,?_,fun b hb=>?_,q⟩
 ·have e1:lo+((0:Nat):Int) * 1=lo:=by simp
  have e2:(((hi - lo).toNat:Nat):Int) - ((0:Nat):Int)=Builtin.Range.rangeSize lo hi 1:=by rw [rangeSize_one]; split <;> omega
  show IsRangeIter _ _ (lo+((0:Nat):Int) * 1) ((((hi - lo).toNat:Nat):Int) - ((0:Nat):Int)) 1;rw [e1,e2];exact zan _ rfl
 ·have e:b=(s.heap.push { cls:=.type "range",data:=.fields #[.int lo t,.int hi u,.int 1 v] }).objs.size:=by simpa using hb
  subst e;exact I1.fpOk (zav _) (I1.hok.fresh (zav _))
def CQ (ta:TA):TI:=fun σ H R=>ta σ H fun vs H1=>∃ j:Int,vs=[.int j]/\-(2 ^ 62)<=j/\j < 2 ^ 62/\R (Itr 0 j.toNat) H1
def nX {a:Expr} {ta:TA} {p pos:Pos} (hg:Gl X "range") (hm:X.mg "range"=none) (ha:PA X [a] ta) (hs:starEach [a] X.env=[(false,eval a X.env)]:=by rfl):PI X tg (.Call (.Name "range" p) [a] [] pos) (CQ ta):=by
 intro pins s σ H R I h;refine Call_ (eB I hg hm boot_range (PyProof.Rows.callWith_type1 (thn (ha pos pins s σ H _ I h) fun us s1 ⟨vs,H1,I1,r1,q1⟩=>?_) hs rfl));obtain ⟨j,e,q1,q2,q⟩:=q1;subst e;cases r1 with
 | cons r rr =>
  cases rr;obtain ⟨t,rfl⟩:=r;exact call_range_1 (pQ I1 (by omega) (by omega) q1 q2 (by simpa using q))
def pJ (wi:TI) (g:TG) (tb:TS):TS:=fun D σ H=>wi σ H fun J H1=>∃ W:Nat->Nat->St->Hp->Prop,(∃ m,W 0 m σ H1)/\∀ i m σ H,W i m σ H ->
 (J.stop i H/\D.nx σ H)\/(J.go i H/\∃ N:St->Hp->Prop,(∀ σ' H',N σ' H'->∃ m',m' < m/\W (i+1) m' σ' H')/\∀ x H',J.yld i H x H'->g x σ H' fun σ2 H2=>tb { D with nx:=N,ct:=N,bk:=D.nx } σ2 H2)
def gJ (fp:List Addr) (h:Heap):List (Addr × Obj):=fp.filterMap fun b=>(h.get? b).map fun o=>(b,o)
def dN {fp:List Addr} {h:Heap} {b:Addr} {o:Obj} (hb:b∈fp) (e:h.get? b=some o):(b,o)∈gJ fp h:=List.mem_filterMap.mpr ⟨b,hb,by rw [e]; rfl⟩
def n6 {fp:List Addr} {h:Heap} {p:Addr × Obj} (hp:p∈gJ fp h):p.1∈fp/\h.get? p.1=some p.2:=by
 obtain ⟨b,hb,e⟩:=List.mem_filterMap.mp hp;cases q:h.get? b with
 | none=>rw [q] at e; cases e
 | some o =>
  rw [q] at e;have e':(b,o)=p:=zat e;subst e';exact ⟨hb,q⟩
def Inv.pinned {pins:List (Addr × Obj)} {σ:St} {H:Hp} {s:Shared} {fp:List Addr} (I:Inv X pins σ H s) (hf:∀ b∈fp,eQ X pins H b) (ho:∀ b∈fp,∃ o,s.heap.get? b=some o/\∀ v,o.data≠.cell v):Inv X (pins++gJ fp s.heap) σ H s :=
 I.pins_of fun p hp=>(zax.mp hp).elim (fun z=>I.pin p (List.mem_append_right _ z)) fun z=>by
  obtain ⟨hb,e⟩:=n6 z;obtain ⟨f0,f1,f2,_⟩:=hf p.1 hb;obtain ⟨o,e',d⟩:=ho p.1 hb;rw [e] at e'; cases e';exact ⟨e,f0,f1,f2,d⟩
def Inv.unpinned {pins pl:List (Addr × Obj)} {σ:St} {H:Hp} {s:Shared} (I:Inv X (pins++pl) σ H s):Inv X pins σ H s:=I.pins_of fun p hp=>I.pin p (List.mem_append_right _ (List.mem_append_left _ hp))
def nV {iter:Expr} {body:List Stmt} {wi:TI} {g:TG} {tb:TS} {pos:Pos} (hp:PassesOwn (model X.prog X.w) X.A X.env X.xe) (hc:X.calm=true) (hi:PI X tg iter wi) (hg:PG X tg g) (hb:PSs X body tb)
  (hs:∀ x,foldedSetIterable iter X.env x=pure x:=by intro _; rfl):PS X (.For tg iter body [] pos) (pJ wi g tb):=by
 intro pins s σ H D I h;refine wpAny_For (thn (hi pins s σ H _ I h) fun v s1 h1=>thn h1 fun itv s2 h2=>?_) hs;obtain ⟨it,fp,tn,J,H2,e,I2,T,st2,f2,W,⟨m0,w0⟩,turn⟩:=h2;subst e;have stat:∀ {H':Hp},(∀ b∈fp,H' b=none)->∀ b∈fp,eQ X pins H' b:=fun hn b hb=>⟨hn b hb,(f2 b hb).2⟩;refine codeAny_forLoop_any (fun n s'=>∃ i σ' H',Inv X pins σ' H' s'/\tn i s'.heap/\(∀ b∈fp,H' b=none)/\W i n σ' H') ?_ m0 ⟨0,σ,H2,I2,st2,fun b hb=>(f2 b hb).1,w0⟩;rintro n s3 ⟨i,σ3,H3,I3,st3,fr3,w3⟩;rcases turn i n σ3 H3 w3 with ⟨stop,qn⟩ | ⟨go,N,hN,step⟩
 ·refine wpAny_passesOwn hp (thn (T.done X rfl rfl rfl hc i pins s3 σ3 H3 X.xe I3 (stat fr3) st3 stop) fun r s4 ⟨hr,I4⟩=>?_);subst hr;exact wpAny_execs_nil ⟨σ3,H3,I4,qn⟩
 ·refine wpAny_passesOwn hp (thn (T.item X rfl rfl rfl hc i pins s3 σ3 H3 X.xe I3 (stat fr3) st3 go) fun r s4 ⟨u,hr,h4⟩=>?_);subst hr;refine wpAny_passesOwn hp (thn h4 fun _ s5 ⟨x,H5,I5,r5,y5,st5,fr5⟩=>?_);have I5':=I5.pinned (stat fr5) (T.obj _ _ st5);refine wpAny_passesOwn hp (thn (hg _ s5 σ3 H5 x u _ I5' r5 (step x H5 y5)) fun _ s6 ⟨σ6,H6,I6,q6⟩=>?_);refine wpAny_passesOwn hp (thn (hb _ s6 σ6 H6 _ I6 q6) fun f s7 q7=>?_);have again:∀ {σ7:St} {H7:Hp},Inv X (pins++gJ fp s5.heap) σ7 H7 s7->N σ7 H7->∃ m,m < n/\∃ i σ' H',Inv X pins σ' H' s7/\tn i s7.heap/\(∀ b∈fp,H' b=none)/\W i m σ' H':=fun {σ7 H7} I7 n7=>by
   obtain ⟨m',hm,w7⟩:=hN σ7 H7 n7;refine ⟨m',hm,i+1,σ7,H7,I7.unpinned,T.keep _ _ _ st5 fun b hb o e=>(I7.pin (b,o) (List.mem_append_right _ (List.mem_append_right _ (dN hb e)))).1,fun b hb=>?_,w7⟩;obtain ⟨o,e,d⟩:=T.obj _ _ st5 b hb;exact (I7.pin (b,o) (List.mem_append_right _ (List.mem_append_right _ (dN hb e)))).2.1
  cases f with
  | next=>obtain ⟨σ7,H7,I7,n7⟩:=q7; exact again I7 n7
  | cont=>obtain ⟨σ7,H7,I7,n7⟩:=q7; exact again I7 n7
  | brk=>obtain ⟨σ7,H7,I7,q7⟩:=q7; exact ⟨σ7,H7,I7.unpinned,q7⟩
  | ret v=>obtain ⟨x7,σ7,H7,I7,r7,q7⟩:=q7; exact ⟨x7,σ7,H7,I7.unpinned,r7,q7⟩
end
def qv {K:PySem.W.Frag} {a:Addr} {xs:List V} {g:TG} {tb:TS} {D:Ends} {σ:St} {H:Hp} (Pv:Nat->St->Hp->Prop) (h0:Pv 0 σ H) (hl:∀ i σ H,i<=xs.length->Pv i σ H->SqL K H a xs)
  (hs:∀ i x σ H,xs[i]?=some x->Pv i σ H->g x σ H fun σ2 H2=>tb { D with nx:=Pv (i+1),ct:=Pv (i+1),bk:=D.nx } σ2 H2) (hd:∀ σ H,Pv xs.length σ H->D.nx σ H) :
  ∃ W:Nat->Nat->St->Hp->Prop,(∃ m,W 0 m σ H)/\∀ i m σ H,W i m σ H ->
   ((Itl K a).stop i H/\D.nx σ H)\/((Itl K a).go i H/\∃ N:St->Hp->Prop,(∀ σ' H',N σ' H'->∃ m',m' < m/\W (i+1) m' σ' H')/\∀ x H',(Itl K a).yld i H x H'->g x σ H' fun σ2 H2=>tb { D with nx:=N,ct:=N,bk:=D.nx } σ2 H2):=by
 refine ⟨fun i m σ H=>m=xs.length - i/\i<=xs.length/\Pv i σ H,⟨xs.length,by simp,Nat.zero_le _,h0⟩,?_⟩;rintro i m σ H ⟨rfl,hi,p⟩;have q:=hl i σ H hi p;by_cases hlt:i < xs.length
 ·refine .inr ⟨⟨xs,xs[i],q,by simp [hlt]⟩,Pv (i+1),fun σ' H' p'=>⟨xs.length - (i+1),by omega,rfl,hlt,p'⟩,fun x H' y=>?_⟩;obtain ⟨e,y⟩:=y;subst e;exact hs i x σ _ (y xs q) p
 ·have e:i=xs.length:=by omega
  subst e;exact .inl ⟨⟨xs,q,zav _⟩,hd σ H p⟩
abbrev R2:=V->V->Hp->VK->Prop
def OpR (X:Cx) (f:Value->Value->Sem Value) (r:R2):Prop :=
 ∀ (pins:List (Addr × Obj)) (s:Shared) (σ:St) (H:Hp) (x y:V) (v u:Value) (Q:VK),Inv X pins σ H s->RelV x v->RelV y u->r x y H Q ->
  wpAny (model X.prog X.w) X.A (f v u) (EP X pins σ Q) X.xe s
def CallR (X:Cx) (f:Value) (r:List V->Hp->VK->Prop):Prop :=
 ∀ (pins:List (Addr × Obj)) (s:Shared) (σ:St) (H:Hp) (xs:List V) (us:List Value) (Q:VK),Inv X pins σ H s->Vals xs us->r xs H Q ->
  wpAny (model X.prog X.w) X.A (call f us) (EP X pins σ Q) X.xe s
def DK (X:Cx) (r:V->Hp->(Bool->Hp->Prop)->Prop):Prop :=
 ∀ (pins:List (Addr × Obj)) (s:Shared) (σ:St) (H:Hp) (x:V) (v:Value) (Q:Bool->Hp->Prop),Inv X pins σ H s->RelV x v->r x H Q ->
  wpAny (model X.prog X.w) X.A (truthy v) (TP X pins σ Q) X.xe s
def tOp (r:R2) (ta tb:TE):TE:=fun σ H Q=>ta σ H fun x H1=>tb σ H1 fun y H2=>r x y H2 Q
def rI (C:Int->Int->Prop) (g:Int->Int->V):R2:=fun x y H Q=>∃ i j,x=.int i/\y=.int j/\C i j/\Q (g i j) H
def rI0 (g:Int->Int->V):R2:=fun x y H Q=>∃ i j,x=.int i/\y=.int j/\Q (g i j) H
section
variable {X:Cx} {a b c:Expr} {ta tb tc:TE} {pos:Pos}
def qP (ha:PE X a ta) (hb:PE X b tb) {pins:List (Addr × Obj)} {s:Shared} {σ:St} {H:Hp} {R:V->V->Hp->Prop} (I:Inv X pins σ H s)
  (h:ta σ H fun x H1=>tb σ H1 fun y H2=>R x y H2) {Q:Value->Shared->Prop} {f:Value->Value->Sem Value}
  (hf:∀ v u s2 x y H2,Inv X pins σ H2 s2->RelV x v->RelV y u->R x y H2->wpAny (model X.prog X.w) X.A (f v u) Q X.xe s2) :
  wpAny (model X.prog X.w) X.A (eval a X.env) (fun v s₁=>wpAny (model X.prog X.w) X.A (eval b X.env) (fun u s₂=>wpAny (model X.prog X.w) X.A (f v u) Q X.xe s₂) X.xe s₁) X.xe s:=by
 refine thn (ha pins s σ H _ I h) fun v s1 ⟨x,H1,I1,r1,q1⟩=>?_;refine thn (hb pins s1 σ H1 _ I1 q1) fun u s2 ⟨y,H2,I2,r2,q2⟩=>?_;exact hf v u s2 x y H2 I2 r1 r2 q2
def CI {op:Operator} {r:R2} (ho:OpR X (binaryOp op) r) (ha:PE X a ta) (hb:PE X b tb):PE X (.BinOp a op b pos) (tOp r ta tb):=by
 intro pins s σ H Q I h;exact wpAny_BinOp (qP ha hb I h fun v u s2 x y H2 I2 rx ry q=>ho pins s2 σ H2 x y v u Q I2 rx ry q)
def opI {f:Value->Value->Sem Value} {C:Int->Int->Prop} {g:Int->Int->Int}
  (rule:∀ (i j:Int) (t u:Tok) (s:Shared) (Q:Value->Shared->Prop) (E:Value->Shared->Prop),C i j->Q (.int (g i j) s.toks) { s with toks:=s.toks+1 }->wpAny (model X.prog X.w) X.A (f (.int i t) (.int j u)) Q E s) :
  OpR X f (rI C fun i j=>.int (g i j)):=by
 intro pins s σ H x y v u Q I rx ry h;obtain ⟨i,j,rfl,rfl,hc,q⟩:=h;obtain ⟨t,rfl⟩:=rx;obtain ⟨t',rfl⟩:=ry;exact rule i j t t' s _ _ hc ⟨.int (g i j),H,I.tok _,⟨_,rfl⟩,q⟩
def A5 {f:Value->Value->Sem Value} {g:Int->Int->Int}
  (rule:∀ (i j:Int) (t u:Tok) (s:Shared) (Q:Value->Shared->Prop) (E:Value->Shared->Prop),Q (.int (g i j) s.toks) { s with toks:=s.toks+1 }->wpAny (model X.prog X.w) X.A (f (.int i t) (.int j u)) Q E s) :
  OpR X f (rI0 fun i j=>.int (g i j)):=by
 intro pins s σ H x y v u Q I rx ry h;obtain ⟨i,j,rfl,rfl,q⟩:=h;obtain ⟨t,rfl⟩:=rx;obtain ⟨t',rfl⟩:=ry;exact rule i j t t' s _ _ ⟨.int (g i j),H,I.tok _,⟨_,rfl⟩,q⟩
def pX {f:Value->Value->Sem Value} {g:Int->Int->Bool}
  (rule:∀ (i j:Int) (t u:Tok) (s:Shared) (Q:Value->Shared->Prop) (E:Value->Shared->Prop),Q (.bool (g i j)) s->wpAny (model X.prog X.w) X.A (f (.int i t) (.int j u)) Q E s) :
  OpR X f (rI0 fun i j=>.bl (g i j)):=by
 intro pins s σ H x y v u Q I rx ry h;obtain ⟨i,j,rfl,rfl,q⟩:=h;obtain ⟨t,rfl⟩:=rx;obtain ⟨t',rfl⟩:=ry;exact rule i j t t' s _ _ ⟨.bl (g i j),H,I,rfl,q⟩
def iZ (i j:Int):Prop:=0 < j/\j < 1073741824
def fA (i j:Int):Prop:=0<=j/\j<=1000000/\i.natAbs < 2 ^ 64
def CMul (i j:Int):Prop:=(-(2 ^ 64) < i/\i < 2 ^ 64)\/(-(2 ^ 64) < j/\j < 2 ^ 64)
def CMul.ok {i j:Int} (h:CMul i j):IntMulOk i j:=by
 rcases h with ⟨h1,h2⟩ | ⟨h1,h2⟩
 ·exact .of_left (intBits_le_64 h1 h2)
 ·exact .of_right (intBits_le_64 h1 h2)
def op_add:OpR X (binaryOp .Add) (rI0 fun i j=>.int (i+j)):=A5 fun _ _ _ _ _ _ _ q=>add_int q
def op_sub:OpR X (binaryOp .Sub) (rI0 fun i j=>.int (i - j)):=A5 fun _ _ _ _ _ _ _ q=>sub_int q
def op_mul:OpR X (binaryOp .Mult) (rI CMul fun i j=>.int (i * j)):=opI fun _ _ _ _ _ _ _ hc q=>mul_int q hc.ok
def op_fdiv:OpR X (binaryOp .FloorDiv) (rI iZ fun i j=>.int (i / j)):=opI fun i j _ _ _ _ _ hc q=>by
 have h1:(0:Int) < j:=hc.1;have h2:j < 1073741824:=hc.2;exact floordiv_int (by omega) (by rw [Int.fdiv_eq_ediv_of_nonneg i (by omega)]; exact q) (.inl (PyProof.noPylong_small (by omega)))
def op_mod:OpR X (binaryOp .Mod) (rI (fun _ j=>0 < j) fun i j=>.int (i % j)):=opI fun i j _ _ _ _ _ hc q=>by
 have h1:(0:Int) < j:=hc;exact mod_int' (by omega) (by rw [Int.fmod_eq_emod_of_nonneg i (by omega)]; exact q)
def op_pow:OpR X (binaryOp .Pow) (rI fA fun i j=>.int (i ^ j.toNat)):=opI fun _ _ _ _ _ _ _ hc q=>pow_int_small hc.1 hc.2.1 hc.2.2 q
def BN {pins:List (Addr × Obj)} {σ:St} {H:Hp} {s:Shared} {Q:VK} {k k':Bool} (I:Inv X pins σ H s) (q:Q (.bl k) H) (e:k=k'):EP X pins σ Q (.bool k') s:=by
 subst e;exact ⟨.bl k,H,I,rfl,q⟩
def op_lt:OpR X (compareOp .Lt) (rI0 fun i j=>.bl (decide (i < j))):=pX fun _ _ _ _ _ _ _ q=>lt_int q
def op_gt:OpR X (compareOp .Gt) (rI0 fun i j=>.bl (decide (j < i))):=pX fun _ _ _ _ _ _ _ q=>gt_int q
def op_ge:OpR X (compareOp .GtE) (rI0 fun i j=>.bl (decide (j<=i))):=pX fun _ _ _ _ _ _ _ q=>ge_int q
def op_notN:OpR X (compareOp .IsNot) (fun x y H Q=>y=.non/\Q (.bl (!decide (x=.non))) H):=by
 intro pins s σ H x y v u Q I rx ry h;obtain ⟨rfl,q⟩:=h;cases ry;refine isnot_none_gen (BN I q ?_);cases x <;> first
  | (cases rx; rfl)
  | (obtain ⟨t,rfl⟩:=rx; rfl)
def ba (b:Expr) {op:CmpOp} (h:op≠.In:=by decide) (h2:op≠.NotIn:=by decide):behindInMarks op b=false:=by
 have e1:(op == CmpOp.In)=false:=by cases op <;> first | rfl | exact absurd rfl h
 have e2:(op == CmpOp.NotIn)=false:=by cases op <;> first | rfl | exact absurd rfl h2
 cases b <;> simp [behindInMarks,e1,e2]
def xb {op:CmpOp} {r:R2} (ho:OpR X (compareOp op) r) (ha:PE X a ta) (hb:PE X b tb) (hm:behindInMarks op b=false):PE X (.Compare a [op] [b] pos) (tOp r ta tb):=by
 intro pins s σ H Q I h;exact wpAny_Compare1 (qP ha hb I h fun v u s2 x y H2 I2 rx ry q=>ho pins s2 σ H2 x y v u Q I2 rx ry q) hm
def Cv (t:TE):TT:=fun σ H Q=>t σ H fun x H'=>∃ k,x=.bl k/\Q k H'
def wX {op:CmpOp} {r:R2} (ho:OpR X (compareOp op) r) (ha:PE X a ta) (hb:PE X b tb) (hm:behindInMarks op b=false):PT X (.Compare a [op] [b] pos) (Cv (tOp r ta tb)):=by
 intro pins s σ H Q I h;refine wpAny_isTrue_Compare1 (thn (ha pins s σ H _ I h) fun v s1 ⟨x,H1,I1,r1,q1⟩=>thn (hb pins s1 σ H1 _ I1 q1) fun u s2 ⟨y,H2,I2,r2,q2⟩ =>
  thn (ho pins s2 σ H2 x y v u _ I2 r1 r2 q2) fun c s3 ⟨z,H3,I3,r3,k,e,q3⟩=>?_) hm
 subst e;cases r3;exact wpAny_truthy_bool ⟨H3,I3,q3⟩
def DJ (K:PySem.W.Frag) (x:V) (H:Hp) (k:Bool):Prop :=
 match x with
 | .non=>k=false
 | .bl b=>k=b
 | .int i=>k=(i != 0)
 | .str y=>y.length<=sizeLine/\k=((y.length:Int) != 0)
 | .byt y=>y.size<=sizeLine/\k=((y.size:Int) != 0)
 | .ref p=>(∃ xs,SqL K H p xs/\k=!xs.isEmpty)\/(∃ xs,SqT K H p xs/\k=!xs.isEmpty)\/∃ kvs,H p=some (.dK kvs)/\k=!kvs.isEmpty
 | _=>False
def fH:(sizeLine:Nat) < 2 ^ 63:=by rw [sizeLine_eq]; decide
def m4:OpR X (binaryOp .Add) (fun x y H Q=>∃ i j,x=.str i/\y=.str j/\i.length+j.length<=sizeLine/\Q (.str (i++j)) H):=by
 intro pins s σ H x y v u Q I rx ry h;obtain ⟨i,j,rfl,rfl,hz,q⟩:=h;obtain ⟨t,rfl⟩:=rx;obtain ⟨t',rfl⟩:=ry;exact add_str (fun t' tk=>⟨.str (i++j),H,I.tok _,⟨_,rfl⟩,q⟩) hz
def eT {x:V} {us:List Value} (r:Vals [x] us):∃ u,us=[u]/\RelV x u:=by
 cases r with
 | cons r1 r2=>cases r2; exact ⟨_,rfl,r1⟩
def wd {x y:V} {us:List Value} (r:Vals [x,y] us):∃ u w',us=[u,w']/\RelV x u/\RelV y w':=by
 cases r with
 | cons r1 r2 =>
  cases r2 with
  | cons r3 r4=>cases r4; exact ⟨_,_,rfl,r1,r3⟩
def call_abs:CallR X (.builtin "abs") (fun xs H Q=>∃ i,xs=[.int i]/\Q (.int (if i < 0 then -i else i)) H):=by
 intro pins s σ H xs us Q I r h;obtain ⟨i,rfl,q⟩:=h;obtain ⟨u,rfl,t,rfl⟩:=eT r;exact call_abs_int fun u tk=>⟨.int (if i < 0 then -i else i),H,I.tok _,⟨_,rfl⟩,q⟩
def pz (hc:X.calm=true):CallR X (.builtin "max") (fun xs H Q=>∃ i j,xs=[.int i,.int j]/\Q (.int (if j > i then j else i)) H):=by
 intro pins s σ H xs us Q I r h;obtain ⟨i,j,rfl,q⟩:=h;obtain ⟨u,w',rfl,⟨t,rfl⟩,⟨t',rfl⟩⟩:=wd r;refine max_two_ints (I.ok.hd hc) fun h' tk k=>⟨_,H,I.kept k,?_,q⟩;by_cases hj:j > i
 ·rw [if_pos hj,if_pos hj]; exact ⟨_,rfl⟩
 ·rw [if_neg hj,if_neg hj]; exact ⟨_,rfl⟩
def Ct (K:PySem.W.Frag) (x:V) (H:Hp) (n:Nat):Prop :=
 match x with
 | .str y=>y.length<=sizeLine/\n=y.length
 | .byt y=>y.size<=sizeLine/\n=y.size
 | .ref p=>(∃ xs,SqL K H p xs/\n=xs.length)\/∃ xs,SqT K H p xs/\n=xs.length
 | _=>False
def qM:CallR X (.builtin "len") (fun xs H Q=>∃ x n,xs=[x]/\Ct X.K x H n/\Q (.int n) H):=by
 intro pins s σ H xs us Q I r h;obtain ⟨x,n,rfl,e,q⟩:=h;obtain ⟨u,rfl,rx⟩:=eT r;have hl:=fH;have hs:sizeLine=16777216:=sizeLine_eq;cases x with
 | str y =>
  obtain ⟨t,rfl⟩:=rx;obtain ⟨hy,e'⟩:y.length<=sizeLine/\n=y.length:=e;subst e';exact len_str (by omega) ⟨.int _,H,I.tok _,⟨_,rfl⟩,q⟩
 | byt y =>
  obtain ⟨t,rfl⟩:=rx;obtain ⟨hy,e'⟩:y.size<=sizeLine/\n=y.size:=e;subst e';exact PySem.W.len_bytes (by omega) ⟨.int _,H,I.tok _,⟨_,rfl⟩,q⟩
 | ref p =>
  cases rx;have e':(∃ xs,SqL X.K H p xs/\n=xs.length)\/∃ xs,SqT X.K H p xs/\n=xs.length:=e;rcases e' with ⟨xs,hx,e'⟩ | ⟨xs,hx,e'⟩
  ·subst e';obtain ⟨its,r',pl,hz⟩:=I.list hx;have hlen:=r'.length;exact Calls.call_len_list pl.isList (by simp only [zai]; omega) ⟨.int xs.length,H,I.tok _,⟨_,by simp only [zai]; rw [hlen]⟩,q⟩
  ·subst e';obtain ⟨its,r',pl,hz⟩:=I.tuple hx;have hlen:=r'.length;exact len_tuple pl (by simp only [zai]; omega) ⟨.int xs.length,H,I.tok _,⟨_,by simp only [zai]; rw [hlen]⟩,q⟩
 | _=>exact (show False from e).elim
end
structure ObjM (h:Heap) (x dx C:Addr) (mA:Str->Option Value):Prop where
 obj:h.get? x=some (PySem.W.instObj C dx)
 ns:h.Ns1 dx mA
 ne:dx≠x
def oi {h:Heap} {dx:Addr} {mA:Str->Option Value} (n:h.Ns1 dx mA):∃ od,h.get? dx=some od/\∀ name,PySem.W.lookIn name od=some (mA name):=by
 obtain ⟨o,es,ep,ho,hd,hk,_,hm⟩:=n;refine ⟨o,ho,fun name=>?_⟩;have e:=hm name;unfold nsFind findBy at e;rw [<- Array.find?_toList] at e;unfold PySem.W.lookIn;rw [hd]
 dsimp only
 split
 ·rename_i y q;rw [q] at e;exact congrArg some e
 ·rename_i q;rw [q] at e;have a:es.toList.any (·.refKey)=false:=by
   rw [List.any_eq_false];intro y hy;obtain ⟨z,t,hkey⟩:=hk y (Array.mem_toList_iff.mp hy);simp [DictEntry.refKey,hkey]
  have a':¬ es.toList.any (·.refKey)=true:=by rw [a]; exact Bool.false_ne_true
  rw [if_neg a'];exact congrArg some e
def ObjM.look {h:Heap} {x dx C:Addr} {mA:Str->Option Value} (I:ObjM h x dx C mA):∃ od,PySem.W.InstAt h x (PySem.W.instObj C dx) C (some od)/\∀ name,PySem.W.lookIn name od=some (mA name) :=
 let ⟨od,ho,hl⟩:=oi I.ns
 ⟨od,⟨I.obj,rfl,rfl,ho⟩,hl⟩
section
variable {prog:Program} {w:World} {A:Around} {E:Value->Shared->Prop} {s:Shared} {K:PySem.W.Frag} {x dx C f:Addr} {mA:Str->Option Value} {name:Str} {v:Value}
end
section
variable {P:Program} {w:World} {H H':Hp} {h h':Heap} {a C dx:Addr} {fs fs':List (Str × V)}
def xq (hok:HOk P w H h) (e:H a=some (.ins C dx fs)):∃ mA,ObjM h a dx C mA/\(∀ f,RelO (fs.lookup f) (mA f))/\PySem.Within mA (fs.map (·.1))/\fs.length<=1000/\H dx=some (.own a):=by
 obtain ⟨d,z,ne,ob,mA,n,r,q⟩:=(show ObjOk P w H h a (.ins C dx fs) from hok a _ e);exact ⟨mA,⟨ob,n,ne⟩,r,q,z,d⟩
end
structure Cls (K:PySem.W.Frag) (C:Addr):Prop where
 pg:PySem.W.plainGet K C Str.empty=true
 hd:PySem.W.hasDictIn K C=true
 po:PySem.W.plainOver K C=true
 sa:PySem.W.findIn K (.ref C) "__setattr__"=some (some (.builtin "object.__setattr__"))
def Cls.get {K:PySem.W.Frag} {C:Addr} (c:Cls K C) (f:Str):PySem.W.plainGet K C f=true:=c.pg
section
variable {X:Cx} {pins:List (Addr × Obj)} {σ:St} {H:Hp} {s:Shared} {a C dx:Addr} {fs:List (Str × V)} {f:Str} {v:V} {A:Around} {E:Value->Shared->Prop}
end
section
variable {X:Cx} {o e value:Expr} {f:Str} {pos pos' tpos:Pos} {ta tv:TE}
end
section
variable {X:Cx} {pins:List (Addr × Obj)} {σ:St} {H:Hp} {s:Shared} {A:Around} {E:Value->Shared->Prop} {Q:Value->Shared->Prop} {c:Value} {b:Bool}
inductive TyOf (K:PySem.W.Frag) (H:Hp):V->Value->Prop where
 | non:TyOf K H .non (.type "NoneType")
 | bl (x:Bool):TyOf K H (.bl x) (.type "bool")
 | int (i:Int):TyOf K H (.int i) (.type "int")
 | str (x:Str):TyOf K H (.str x) (.type "str")
 | flt (x:UInt64):TyOf K H (.flt x) (.type "float")
 | lst {a:Addr} {xs:List V} (e:H a=some (.lst xs)):TyOf K H (.ref a) (.type "list")
 | frz {a:Addr} {o:Obj} {xs:List V} (e:H a=some (.frz o (.lst xs))):TyOf K H (.ref a) (.type "list")
 | tup {a:Addr} {xs:List V} (e:H a=some (.tup xs)):TyOf K H (.ref a) (.type "tuple")
 | dK {a:Addr} {kvs:List (Key × V)} (e:H a=some (.dK kvs)):TyOf K H (.ref a) (.type "dict")
 | dT {a:Addr} {kvs:List (List Key × V)} (e:H a=some (.dT kvs)):TyOf K H (.ref a) (.type "dict")
 | ins {a C dx:Addr} {fs:List (Str × V)} (e:H a=some (.ins C dx fs)) (cl:Cls K C) (ha:PySem.W.findIn K (.ref C) "__class__"=some (some (.builtin "object.__class__")))
   (hn:PySem.W.specialIn K (.builtin "object.__class__") "__get__"=some (some (.builtin "getset_descriptor.__get__"))) (htk:PySem.W.takesIn K (.builtin "object.__class__")=some true)
   (hm:PySem.W.mroIn K C (.type "object")=some true):TyOf K H (.ref a) (.ref C)
def oF {x:V} {u t:Value} (I:Inv X pins σ H s) (rx:RelV x u) (ty:TyOf X.K H x t) (e:PySem.W.kitOne X.K t c=some b) (h:∀ tk,Q (.bool b) { s with toks:=tk }) :
  wpAny (model X.prog X.w) A (call (.builtin "isinstance") [u,c]) Q E s:=by
 cases ty with
 | non=>cases (show u=Value.none from rx); exact PySem.W.kia_one PySem.W.kitx_none I.kIn True.intro e (fun z=>nomatch z) h
 | bl y=>cases (show u=Value.bool y from rx); exact PySem.W.kia_one PySem.W.kitx_bool I.kIn True.intro e (fun z=>nomatch z) h
 | int i=>obtain ⟨t,q⟩:=(show ∃ t,u=Value.int i t from rx); cases q; exact PySem.W.kia_one PySem.W.kitx_int I.kIn True.intro e (fun z=>nomatch z) h
 | str y=>obtain ⟨t,q⟩:=(show ∃ t,u=Value.str y t from rx); cases q; exact PySem.W.kia_one PySem.W.kitx_str I.kIn True.intro e (fun z=>nomatch z) h
 | flt y=>obtain ⟨t,q⟩:=(show ∃ t,u=Value.float y t from rx); cases q; exact PySem.W.kia_one PySem.W.kitx_float I.kIn True.intro e (fun z=>nomatch z) h
 | @lst a xs ea =>
  cases (show u=Value.ref a from rx);obtain ⟨_,_,n,_,h1⟩:=(show ObjOk X.prog X.w H s.heap a (.lst xs) from I.hok a _ ea);exact PySem.W.kia_one PySem.W.kitx_list I.kIn ⟨_,h1,rfl⟩ e (fun z=>nomatch z) h
 | @frz a ob xs ea =>
  cases (show u=Value.ref a from rx);obtain ⟨_,_,_,n,_,h1⟩:=(show ObjOk X.prog X.w H s.heap a (.frz ob (.lst xs)) from I.hok a _ ea);exact PySem.W.kia_one PySem.W.kitx_list I.kIn ⟨_,h1,rfl⟩ e (fun z=>nomatch z) h
 | @tup a xs ea =>
  cases (show u=Value.ref a from rx);obtain ⟨_,_,_,p⟩:=(show ObjOk X.prog X.w H s.heap a (.tup xs) from I.hok a _ ea);obtain ⟨o,h1,h2,_⟩:=p;exact PySem.W.kia_one PySem.W.kitx_tuple I.kIn ⟨o,h1,h2⟩ e (fun z=>nomatch z) h
 | @dK a kvs ea =>
  cases (show u=Value.ref a from rx);obtain ⟨_,_,vs,_,p⟩:=(show ObjOk X.prog X.w H s.heap a (.dK kvs) from I.hok a _ ea);obtain ⟨o,es,ep,h1,h2,_⟩:=p;exact PySem.W.kia_one PySem.W.kitx_dict I.kIn ⟨o,h1,h2.1⟩ e (fun z=>nomatch z) h
 | @dT a kvs ea =>
  cases (show u=Value.ref a from rx);obtain ⟨_,_,xs,_,o,es,ep,h1,h2,_⟩:=(show ObjOk X.prog X.w H s.heap a (.dT kvs) from I.hok a _ ea);exact PySem.W.kia_one PySem.W.kitx_dict I.kIn ⟨o,h1,h2.1⟩ e (fun z=>nomatch z) h
 | @ins a C dx fs ea cl ha hn htk hm =>
  cases (show u=Value.ref a from rx);obtain ⟨mA,O,_⟩:=xq I.hok ea;obtain ⟨od,J,_⟩:=O.look;exact PySem.W.kia_one (PySem.W.kitx_own (cl.get _) cl.hd ha hn htk hm) I.kIn J e (fun z=>nomatch z) h
end
structure Room (k:Nat) (A:Around):Prop where
 hd:A.handled=none
 dp:A.depth+3 * k+5 < recursionLimit
 un:A.units+16 * k+200 < cLine
 gd:A.guards=some []
def Room.mono {j k:Nat} {A:Around} (r:Room k A) (h:j<=k):Room j A:=⟨r.hd,by have:=r.dp; omega,by have:=r.un; omega,r.gd⟩
def Room.deeper {k:Nat} {A:Around} (r:Room (k+1) A) (env:Env):Room k (A.deeper env) :=
 ⟨r.hd,by have:=r.dp; show A.depth+1+3 * k+5 < _; omega,by have:=r.un; show A.units+3+16 * k+200 < _; omega,r.gd⟩
def Room.depth {k:Nat} {A:Around} (r:Room k A):A.depth < recursionLimit:=by have:=r.dp; omega
def Room.units {k:Nat} {A:Around} (r:Room k A):A.units+64 < cLine:=by have:=r.un; omega
def kM:TA:=fun _ H Q=>Q [] H
def ik (ta:TE) (tr:TA):TA:=fun σ H Q=>ta σ H fun x H1=>tr σ H1 fun xs H2=>Q (x :: xs) H2
section
variable {X:Cx} {e:Expr} {es:List Expr} {te:TE} {t:TA} {pos:Pos}
def pa_nil:PA X [] kM:=fun _ _ _ _ H Q I h=>Calls.spliced_nil ⟨[],H,I,.nil,h⟩
def cV (ha:PE X e te) (hr:PA X es t) (hs:starEach (e :: es) X.env=(false,eval e X.env) :: starEach es X.env:=by rfl):PA X (e :: es) (ik te t):=by
 intro pos pins s σ H Q I h;rw [hs];show wpAny _ _ (spliced ((false,eval e X.env) :: backTo pos (starEach es X.env))) _ _ s;refine Calls.spliced_cons (thn (ha pins s σ H _ I h) fun u s1 ⟨x,H1,I1,r1,q1⟩=>?_);exact thn (hr pos pins s1 σ H1 _ I1 q1) fun us s2 ⟨xs,H2,I2,r2,q2⟩=>⟨x :: xs,H2,I2,.cons r1 r2,q2⟩
def At (t:TA):TE:=fun σ H Q=>t σ H fun xs H1=>xs.length<=sizeLine/\∀ p,H1 p=none->Q (.ref p) (upd H1 p (.tup xs))
def Ay (t:TA):TE:=fun σ H Q=>t σ H fun xs H1=>xs.length<=sizeLine/\∀ p,H1 p=none->Q (.ref p) (upd H1 p (.lst xs))
def AX {x1} (h:PA X es t):PE X (.Tuple es x1 pos) (At t):=by
 intro pins s σ H Q I hq;refine wpAny_Tuple_spliced (thn (h pos pins s σ H _ I hq) fun us s1 ⟨xs,H1,I1,r,z,q⟩=>⟨by rw [<- r.length]; exact z,?_⟩);have hf:H1 s1.heap.objs.size=none:=I1.hok.fresh (zav _);refine ⟨.ref s1.heap.objs.size,upd H1 s1.heap.objs.size (.tup xs),I1.laid (t':=s1.toks) (fun b u e=>zaf _ e) (zav _) ?_,rfl,q _ hf⟩;exact ⟨z,us,r,⟨_,zan _ rfl,rfl,_,rfl,rfl⟩⟩
def A1 (h:PA X es t):PE X (.List es pos) (Ay t):=by
 intro pins s σ H Q I hq;refine wpAny_List_spliced (thn (h pos pins s σ H _ I hq) fun us s1 ⟨xs,H1,I1,r,z,q⟩=>⟨by rw [<- r.length]; exact z,?_⟩);have hf:H1 s1.heap.objs.size=none:=I1.hok.fresh (zav _);refine ⟨.ref s1.heap.objs.size,upd H1 s1.heap.objs.size (.lst xs),I1.laid (t':=s1.toks) (fun b u e=>zaf _ e) (zav _) ?_,rfl,q _ hf⟩;exact ⟨z,us,0,r,zan _ rfl⟩
end
abbrev Sp:=List V->Hp->VK->XK->Prop
abbrev CXT:=List Env->Hp->Shared->XK->Value->Shared->Prop
structure Env0 (P:Program) (w:World) (K:PySem.W.Frag) (mg:Str->Option Value) (base:Heap) (A:Around) (outer:List Env) (s:Shared) (H:Hp):Prop where
 frames:A.frames=some outer
 mod:Mod K mg base
 bs:∀ b o,base.get? b=some o->s.heap.get? b=some o/\H b=none
 bsz:base.objs.size<=s.heap.objs.size
 funs:s.heap.FunFrames base outer
 frf:∀ b∈frs outer,H b=none
 hok:HOk P w H s.heap
 bare:AllBare s.gens
def CE (outer:List Env) (P:Program) (w:World) (H:Hp) (s:Shared) (Q:VK) (u:Value) (s':Shared):Prop :=
 ∃ v H',s'.os=s.os/\AllBare s'.gens/\Un (frs outer) [] H H' s.heap s'.heap/\HOk P w H' s'.heap/\RelV v u/\Q v H'
def CR (CX:CXT) (outer:List Env) (P:Program) (w:World) (H:Hp) (s:Shared) (Q:VK) (E:XK) (r:Result) (s':Shared):Prop :=
 match r with
 | .ok (.ret u)=>CE outer P w H s Q u s'
 | .ok _=>False
 | .error e=>CX outer H s E e s'
structure FnOk (P:Program) (w:World) (K:PySem.W.Frag) (mg:Str->Option Value) (base:Heap) (CX:CXT) (k:Nat) (f:Addr) (fd:FuncData) (ps:List Str) (sp:Sp):Prop where
 len:∀ vs H Q E,sp vs H Q E->vs.length=ps.length
 run:∀ (A:Around) (outer:List Env) (s:Shared) (H:Hp) (args:Args) (us:List Value) (vs:List V) (Q:VK) (E:XK),Room k A->Env0 P w K mg base A outer s H->BindsTo s fd args (ps.zip us)->Vals vs us->sp vs H Q E ->
  codeAny (model P w) A (.call (.ref f) args) (CR CX outer P w H s Q E) s
def FnOk.mono {P:Program} {w:World} {K:PySem.W.Frag} {mg:Str->Option Value} {base:Heap} {CX:CXT} {j k:Nat} {f:Addr} {fd:FuncData} {ps:List Str} {sp:Sp} (F:FnOk P w K mg base CX j f fd ps sp) (h:j<=k) :
  FnOk P w K mg base CX k f fd ps sp:=⟨F.len,fun A outer s H args us vs Q E hr=>F.run A outer s H args us vs Q E (hr.mono h)⟩
def FnOk.imp {P:Program} {w:World} {K:PySem.W.Frag} {mg:Str->Option Value} {base:Heap} {CX:CXT} {k:Nat} {f:Addr} {fd:FuncData} {ps:List Str} {sp sp':Sp} (F:FnOk P w K mg base CX k f fd ps sp)
  (h:∀ vs H Q E,sp' vs H Q E->sp vs H Q E):FnOk P w K mg base CX k f fd ps sp' :=
 ⟨fun vs H Q E q=>F.len vs H Q E (h _ _ _ _ q),fun A outer s H args us vs Q E hr he hb hv hs=>F.run A outer s H args us vs Q E hr he hb hv (h _ _ _ _ hs)⟩
section
variable {X:Cx} {pins:List (Addr × Obj)} {σ:St} {H:Hp} {s s':Shared}
def Inv.env0 (I:Inv X pins σ H s):Env0 X.prog X.w X.K X.mg X.base X.A X.stack s H :=
 ⟨I.ok.frames,I.ok.mod,I.bs,zau I.ok.bsz I.sz,I.stack,I.stkFree,I.hok,I.bare⟩
def Inv.after {Q:VK} {u:Value} (I:Inv X pins σ H s) (h:CE X.stack X.prog X.w H s Q u s'):EP X pins σ Q u s':=by
 obtain ⟨v,H',os,bare,un,hok,r,q⟩:=h;obtain ⟨hh,g,d,t,os'⟩:=s';obtain rfl:os'=s.os:=os;exact ⟨v,H',I.call (h':=hh) (g':=g) (d':=d) (t':=t) (ch:=[]) un hok bare (fun b z=>absurd z (by simp)),r,q⟩
end
def mX (sp:Sp) (dvs:List V) (E:XK) (t:TA):TE:=fun σ H Q=>t σ H fun vs H1=>sp (vs++dvs) H1 Q E
def Binds (K:PySem.W.Frag) (fd:FuncData) (ps:List Str) (ds:List Value):Prop :=
 ∀ (s:Shared) (us:List Value),K.In s.heap->(us++ds).length=ps.length->BindsTo s fd ⟨us,[]⟩ (ps.zip (us++ds))
def Binds.all {K:PySem.W.Frag} {fd:FuncData} {ps:List Str} (h:∀ us:List Value,us.length=ps.length->bindArgs fd ⟨us,[]⟩=pure (ps.zip us)):Binds K fd ps []:=fun s us _ hl=>by
 rw [List.append_nil] at hl ⊢;exact .of_eq (h us hl)
def lK (CX:CXT) (X:Cx) (E:XK):Prop:=∀ (pins:List (Addr × Obj)) (σ:St) (H:Hp) (s:Shared) (e:Value) (s':Shared),Inv X pins σ H s->CX X.stack H s E e s'->X.xe e s'
section
variable {X:Cx} {CX:CXT} {k:Nat} {f C:Addr} {fd:FuncData} {ps:List Str} {sp:Sp} {dvs:List V} {ds:List Value} {E:XK} {x m:Str} {p pos apos:Pos} {e o:Expr} {es:List Expr} {ta:TE} {t:TA}
def AE {pins:List (Addr × Obj)} {σ:St} {H:Hp} {s:Shared} {Q:VK} {us:List Value} {vs:List V} (F:FnOk X.prog X.w X.K X.mg X.base CX k f fd ps sp) (hr:Room k X.A) (hb:Binds X.K fd ps ds) (hd:Vals dvs ds) (hx:lK CX X E)
  (I:Inv X pins σ H s) (r:Vals vs us) (h:sp (vs++dvs) H Q E):wpAny (model X.prog X.w) X.A (call (.ref f) us) (EP X pins σ Q) X.xe s:=by
 have r2:Vals (vs++dvs) (us++ds):=r.append hd;have hl:(us++ds).length=ps.length:=by rw [<- r2.length]; exact F.len _ _ _ _ h
 refine wpAny_call (codeAny_mono (F.run X.A X.stack s H ⟨us,[]⟩ (us++ds) (vs++dvs) Q E hr I.env0 (hb s us I.kIn hl) r2 h) fun r s' hq=>?_);cases r with
 | error e=>exact hx pins σ H s e s' I hq
 | ok fl =>
  cases fl with
  | ret u=>exact I.after hq
  | next=>exact False.elim hq
  | brk=>exact False.elim hq
  | cont=>exact False.elim hq
def xc (F:FnOk X.prog X.w X.K X.mg X.base CX k f fd ps sp) (hr:Room k X.A) (hg:Gl X x) (hm:X.mg x=some (.ref f)) (hk:PySem.W.keepIn X.K (.ref f)=true) (hb:Binds X.K fd ps ds) (hd:Vals dvs ds) (hx:lK CX X E)
  (ha:PA X (e :: es) t) (hdb:(x == ("__debug__" : Str))=false:=by decide) (he:starEach (e :: es) X.env=(false,eval e X.env) :: starEach es X.env:=by rfl) (hpl:(backTo pos (starEach es X.env)).any (·.1)=false:=by rfl) :
  PE X (.Call (.Name x p) (e :: es) [] pos) (mX sp dvs E t):=by
 intro pins s σ H Q I h;refine wpAny_Call_Name_kw (xm I hg hm ?_ hdb);refine PySem.W.callWith_K (h₀:=X.base) I.ok.mod.kin hk (thn (ha pos pins s σ H _ I h) fun us s1 ⟨vs,H1,I1,r,q⟩=>⟨I1.kIn,?_⟩) he hpl;exact AE F hr hb hd hx I1 r q
end
section
variable {X:Cx} {CX:CXT} {k:Nat} {f C:Addr} {fd:FuncData} {ps ks:List Str} {sp:Sp} {E:XK} {x m:Str} {p pos apos kpos:Pos} {e o:Expr} {es:List Expr} {kws:List Keyword} {te ta:TE} {t tk:TA} {nm:Option Str}
variable {g:List Value->List Value->List Value} {gV:List V->List V->List V}
end
structure FnScope (N P:List Str) (sc:Scope):Prop where
 kind:sc.kind=.function
 co:sc.isCoroutine=false
 gen:sc.isGenerator=false
 nd:N.Nodup
 pre:N.take P.length=P
 par:∀ x∈P,sc.names.lookup x=some .local\/sc.names.lookup x=some .cell
 nofree:∀ y∈sc.names,y.2≠.free
def ki {kindOf:Str->Option NameKind} {x:Str}:∀ {binds:List (Str × Value)} {m:Str->Option Value},(∀ v,(x,v) ∉ binds)->bindL kindOf binds m x=m x
 | [],_,_=>rfl
 | (n,v) :: r,m,h=>by
  unfold bindL;rw [ki fun w hw=>h w (zaj _ hw)];split
  ·have:x≠n:=by rintro rfl; exact h v zaq
   simp [this]
  ·rfl
def kl {kindOf:Str->Option NameKind} {x:Str}:∀ {binds:List (Str × Value)} {m:Str->Option Value},(∀ v,(x,v) ∉ binds)->bindC kindOf binds m x=m x
 | [],_,_=>rfl
 | (n,v) :: r,m,h=>by
  unfold bindC;rw [kl fun w hw=>h w (zaj _ hw)];split
  ·rfl
  ·have:x≠n:=by rintro rfl; exact h v zaq
   simp [this]
def kj {kindOf:Str->Option NameKind} {x:Str} {v:Value}:∀ {P:List Str} {vs:List Value} {i:Nat} {m:Str->Option Value},P.Nodup->P[i]?=some x->vs[i]?=some v->kindOf x=some .local ->
  bindL kindOf (P.zip vs) m x=some v
 | [],_,_,_,_,h,_,_=>by simp at h
 | _ :: _,[],_,_,_,_,h,_=>by simp at h
 | p :: P,w :: vs,0,m,nd,h1,h2,hk=>by
  simp at h1 h2; subst h1; subst h2;show bindL kindOf ((p,w) :: P.zip vs) m p=_;unfold bindL;rw [ki fun v hv=>(zba.mp nd).1 (List.of_mem_zip hv).1,if_pos hk];simp
 | p :: P,w :: vs,i+1,m,nd,h1,h2,hk=>by
  show bindL kindOf ((p,w) :: P.zip vs) m x=_;unfold bindL;exact kj (i:=i) (zba.mp nd).2 (by simpa using h1) (by simpa using h2) hk
def km {kindOf:Str->Option NameKind} {x:Str} {v:Value}:∀ {P:List Str} {vs:List Value} {i:Nat} {m:Str->Option Value},P.Nodup->P[i]?=some x->vs[i]?=some v->kindOf x≠some .local ->
  bindC kindOf (P.zip vs) m x=some v
 | [],_,_,_,_,h,_,_=>by simp at h
 | _ :: _,[],_,_,_,_,h,_=>by simp at h
 | p :: P,w :: vs,0,m,nd,h1,h2,hk=>by
  simp at h1 h2; subst h1; subst h2;show bindC kindOf ((p,w) :: P.zip vs) m p=_;unfold bindC;rw [kl fun v hv=>(zba.mp nd).1 (List.of_mem_zip hv).1,if_neg hk];simp
 | p :: P,w :: vs,i+1,m,nd,h1,h2,hk=>by
  show bindC kindOf ((p,w) :: P.zip vs) m x=_;unfold bindC;exact km (i:=i) (zba.mp nd).2 (by simpa using h1) (by simpa using h2) hk
def bW (N:List Str) (vs:List V):St:=vs.map some++List.replicate (N.length - vs.length) none
def iS (CX:CXT) (P:Program) (w:World) (K:PySem.W.Frag) (mg:Str->Option Value) (base:Heap) (N:List Str) (qual:Str) (scope:Scope) (f:Addr) (cd:Value) (A:Around) (outer:List Env) (s:Shared) (H:Hp) (E:XK):Cx where
 prog:=P
 w:=w
 K:=K
 mg:=mg
 base:=base
 A:=A.deeper (envOfC qual scope s.heap.objs.size f cd)
 N:=N
 s₀:=s
 H₀:=H
 env:=envOfC qual scope s.heap.objs.size f cd
 outer:=outer
 stack:=envOfC qual scope s.heap.objs.size f cd :: outer
 ex:=[]
 calm:=true
 fn:=fun _=>true
 pn:=[]
 xe:=fun e s'=>wpAny (model P w) (A.deeper (envOfC qual scope s.heap.objs.size f cd)) (leaving (envOfC qual scope s.heap.objs.size f cd) e) (fun _ s''=>CX outer H s E e s'') (fun e' s''=>CX outer H s E e' s'') s'
def lC {sc:Scope} {n:Nat} {x:Str} (h:sc.names.lookup x=some .cell):∃ c,(cellsFrom n sc.names []).lookup x=some c:=by
 have q:=PySem.W.cellsFrom_some sc.names n [] (.inl h);exact Option.isSome_iff_exists.mp q
def oG {CX:CXT} {P:Program} {w:World} {K:PySem.W.Frag} {mg:Str->Option Value} {base:Heap} {N ps:List Str} {qual:Str} {scope:Scope} {f:Addr} {cd:Value} {A:Around} {outer:List Env} {s s1:Shared} {H:Hp} {E:XK} {us:List Value} {vs:List V}
  (S:FnScope N ps scope) (hd:A.handled=none) (e0:Env0 P w K mg base A outer s H) (hl:vs.length=ps.length) (r:Vals vs us)
  (x:InCallC s s.heap.objs.size (bindL (envOfC qual scope s.heap.objs.size f cd).kindOf (ps.zip us) fun _=>none) (cellsFrom (s.heap.objs.size+1) scope.names []) (bindC (envOfC qual scope s.heap.objs.size f cd).kindOf (ps.zip us) fun _=>none) s1) :
  Inv (iS CX P w K mg base N qual scope f cd A outer s H E) [] (bW N vs) H s1:=by
 have hpl:ps.length<=N.length:=by have:=congrArg List.length S.pre; rw [List.length_take] at this; omega
 obtain ⟨h1,tk,rfl,hk⟩:=x.done;have noA:∀ b:Addr,b ∉ (iS CX P w K mg base N qual scope f cd A outer s H E).ex:=fun b z=>absurd (show b∈([]:List Addr) from z) (by simp);refine ⟨⟨e0.mod,S.kind,rfl,rfl,zav _,fun y z c h1 h2=>?_,fun y hy=>?_,fun y c _ h=>?_,fun _=>hd,Around.frames_deeper e0.frames,.inr ⟨rfl,rfl⟩,fun b z=>absurd z (noA b),e0.bs,e0.bsz,fun b _ _=>noA b,fun b z=>absurd z (noA b),e0.funs,e0.frf⟩,
  rfl,e0.bare,Un.kept hk,⟨_,x.toInCall.ns,fun i y v h1 h2 h3=>?_⟩,fun y c h=>⟨_,x.cell y c h⟩,e0.hok.fresh (zav _),fun y c h=>?_,fun p hp=>absurd (show p∈([]:List (Addr × Obj)) from hp) (by simp),e0.hok.kept hk,?_⟩
 ·exact name_of_addr x.apart (zaS h1) (zaS h2)
 ·have hy:scope.names.lookup y=some .cell\/scope.names.lookup y=some .free:=hy;rcases hy with hy | hy
  ·exact lC hy
  ·exact absurd rfl (S.nofree _ (zaS hy))
 ·exact zaU (x.above y c (zaS h))
 ·have hi:i < vs.length:=by
   unfold bW at h2;by_cases hi:i < vs.length
   ·exact hi
   ·rw [List.getElem?_append_right (by simpa using hi)] at h2;rw [List.getElem?_replicate] at h2;split at h2 <;> cases h2
  have ha:vs[i]?=some v:=by
   unfold bW at h2;rw [zaQ (by simpa using hi),zao] at h2;cases e:vs[i]? with
   | none=>rw [e] at h2; cases h2
   | some a=>rw [e] at h2; cases h2; rfl
  obtain ⟨u,hu,rv⟩:=r.get ha;have hp:ps[i]?=some y:=by
   rw [<- S.pre,List.getElem?_take_of_lt (by omega)]; exact h1
  have ndP:ps.Nodup:=by rw [<- S.pre]; exact S.nd.sublist (List.take_sublist _ _)
  refine ⟨u,rv,?_⟩;rcases S.par y (zaV hp) with k | k
  ·exact .inl ⟨k,kj ndP hp hu k⟩
  ·obtain ⟨c,e⟩:=lC (n:=s.heap.objs.size+1) k;refine .inr ⟨.inl k,c,e,?_⟩;have q:=x.cell y c e;rw [km ndP hp hu (by show scope.names.lookup y≠_; rw [k]; decide)] at q;exact q
 ·exact e0.hok.fresh (zaU (x.above y c (zaS h)))
 ·unfold bW;show _=N.length;rw [zae,zad,zaL];omega
def C1 {CX:CXT} {P:Program} {w:World} {K:PySem.W.Frag} {mg:Str->Option Value} {base:Heap} {k:Nat} {f:Addr} {name qual:Str} {params:Arguments} {body:List Stmt} {scope:Scope} {dV kV doc pm cdv ct oc:Value} {an od:Option Addr}
  {osl:Array (Option Value)} {N ps:List Str} {sp:Sp} (lk:K.lookup f=some ⟨oc,od,.func (PySem.W.fnOf name qual params body scope dV kV doc pm an cdv ct),osl⟩) (hcd:PySem.W.codeIn K cdv qual=true) (S:FnScope N ps scope)
  (len:∀ vs H Q E,sp vs H Q E->vs.length=ps.length)
  (hbody:∀ (A:Around) (outer:List Env) (s:Shared) (H:Hp) (vs:List V) (Q:VK) (E:XK),Room k (A.deeper (envOfC qual scope s.heap.objs.size f cdv))->sp vs H Q E ->
   ∃ t,PSs (iS CX P w K mg base N qual scope f cdv A outer s H E) body t/\t { nx:=fun _ H'=>Q .non H',rt:=Q } (bW N vs) H) :
  FnOk P w K mg base CX (k+1) f (PySem.W.fnOf name qual params body scope dV kV doc pm an cdv ct) ps sp:=by
 refine ⟨len,fun A outer s H args us vs Q E hr e0 hb r hsp=>?_⟩;have hl:=len _ _ _ _ hsp;have KX:K.In s.heap:=e0.mod.kin.keeps fun b o e=>(e0.bs b o e).1;have lim:s.heap.NoLimit:=e0.mod.nolimit.keeps fun b o e=>(e0.bs b o e).1;have hkind:∀ y∈ps.zip us,scope.names.lookup y.1=some .local\/(scope.names.lookup y.1=some .cell/\((cellsFrom (s.heap.objs.size+1) scope.names []).lookup y.1).isSome=true):=fun ⟨n,v⟩ hy=>by
  rcases S.par n (List.of_mem_zip hy).1 with q | q
  ·exact .inl q
  ·exact .inr ⟨q,PySem.W.cellsFrom_some _ _ _ (.inl q)⟩
 refine codeAny_call_function hr.depth (KX _ _ lk) rfl S.co S.gen rfl (PySem.W.codeRec_of KX hcd) (hb _ _ _ _ ?_);refine wpAny_newFunctionEnv_cells S.kind hkind fun env he s1 x=>?_;subst he;refine ⟨lim.keeps x.toInCall.keep,codeAny_func ?_⟩;obtain ⟨t,ht,hq⟩:=hbody A outer s H vs Q E (hr.deeper _) hsp;have I:Inv (iS CX P w K mg base N qual scope f cdv A outer s H E) [] (bW N vs) H s1:=oG S hr.hd e0 hl r x;refine wpAny_mono (ht [] s1 (bW N vs) H _ I hq) (fun fl s' hs=>?_) fun e s' hs=>hs;have fin:∀ {σ':St} {H':Hp} {v:V} {u:Value},Inv (iS CX P w K mg base N qual scope f cdv A outer s H E) [] σ' H' s'->RelV v u->Q v H'->CE outer P w H s Q u s' :=
  fun {σ' H' v u} J rv q=>⟨v,H',J.os,J.bare,J.base,J.hok,rv,q⟩
 cases fl with
 | ret u =>
  obtain ⟨v,σ',H',J,rv,q⟩:=hs;exact fin J rv q
 | next =>
  obtain ⟨σ',H',J,q⟩:=hs;exact fin (v:=V.non) (u:=Value.none) J rfl q
 | brk =>
  obtain ⟨_,_,_,q⟩:=hs;exact False.elim q
 | cont =>
  obtain ⟨_,_,_,q⟩:=hs;exact False.elim q
section
variable {X:Cx} {x:Str} {p pos:Pos} {e:Expr} {es:List Expr} {t:TA} {id T:String} {r:List V->Hp->VK->Prop}
def tCB (r:List V->Hp->VK->Prop) (t:TA):TE:=fun σ H Q=>t σ H fun vs H1=>r vs H1 Q
def kS (hc:CallR X (.builtin id) r) (hg:Gl X x) (hm:X.mg x=none) (hv:bootBuiltins x=some (.builtin id)) (ha:PA X (e :: es) t) (hn:x≠"__name__":=by decide) (hdb:(x == ("__debug__" : Str))=false:=by decide)
  (he:starEach (e :: es) X.env=(false,eval e X.env) :: starEach es X.env:=by rfl) (hpl:(backTo pos (starEach es X.env)).any (·.1)=false:=by rfl):PE X (.Call (.Name x p) (e :: es) [] pos) (tCB r t):=by
 intro pins s σ H Q I h;refine wpAny_Call_Name_kw (eB I hg hm hv ?_ hn hdb);exact PyProof.Rows.callWith_builtin1 (thn (ha pos pins s σ H _ I h) fun us s1 ⟨vs,H1,I1,r1,q1⟩=>hc pins s1 σ H1 vs us Q I1 r1 q1) he hpl
def j7 (hc:CallR X (.type T) r) (hg:Gl X x) (hm:X.mg x=none) (hv:bootBuiltins x=some (.type T)) (ha:PA X (e :: es) t) (hn:x≠"__name__":=by decide) (hdb:(x == ("__debug__" : Str))=false:=by decide)
  (he:starEach (e :: es) X.env=(false,eval e X.env) :: starEach es X.env:=by rfl) (hpl:(backTo pos (starEach es X.env)).any (·.1)=false:=by rfl):PE X (.Call (.Name x p) (e :: es) [] pos) (tCB r t):=by
 intro pins s σ H Q I h;refine wpAny_Call_Name_kw (eB I hg hm hv ?_ hn hdb);exact PyProof.Rows.callWith_type1 (thn (ha pos pins s σ H _ I h) fun us s1 ⟨vs,H1,I1,r1,q1⟩=>hc pins s1 σ H1 vs us Q I1 r1 q1) he hpl
end
end L2
namespace HT
open PySem PyProof.Rows
section
open PySem.SeqAt
open PySem.AutoSeq1 (wpAny_loadPart')
open PySem.MeetsSeq PySem.MeetsSeq2 PySem.MeetsSeq3
end
section
variable {prog:Program} {w:World} {A:Around} {E:Value->Shared->Prop} {s:Shared}
def sIx (n d:Nat):Option Int->Nat
 | none=>d
 | some v=>if v < 0 then (v+(n:Int)).toNat else min v.toNat n
def sIx_none (n d:Nat):sIx n d none=d:=rfl
def sIx_nat (n d k:Nat):sIx n d (some (k:Int))=min k n:=by
 show (if (k:Int) < 0 then ((k:Int)+(n:Int)).toNat else min (k:Int).toNat n)=min k n;rw [if_neg (by omega),zaJ]
end
end HT
namespace L2
open PySem PySem.Spec PyProof.Rows
abbrev TO:=St->Hp->(Option Int->Hp->Prop)->Prop
def PO (X:Cx) (e:Option Expr) (t:TO):Prop :=
 ∀ (pins:List (Addr × Obj)) (s:Shared) (σ:St) (H:Hp) (Q:Option Int->Hp->Prop),Inv X pins σ H s->t σ H Q ->
  wpAny (model X.prog X.w) X.A (evalPart e X.env) (fun u s'=>∃ o H',Inv X pins σ H' s'/\IsPart u o/\Q o H') X.xe s
def wO:TO:=fun _ H Q=>Q none H
def Cw (t:TE):TO:=fun σ H Q=>t σ H fun x H1=>∃ i,x=.int i/\Q (some i) H1
def nv {ns:List Int}:∀ {us:List Value},Vals (ns.map V.int) us->IntsAre us ns:=by
 induction ns with
 | nil=>intro us r; rw [List.map_nil] at r; cases r; exact .nil
 | cons n ns ih =>
  intro us r;rw [zar] at r;cases r with
  | cons r1 r2 =>
   obtain ⟨t,e⟩:=r1;subst e;exact .cons n t (ih r2)
section
variable {X:Cx} {e:Expr} {te:TE} {lo hi:Option Expr} {tl th:TO} {pos p2:Pos}
def po_none:PO X none wO:=by
 intro pins s σ H Q I h;rw [evalPart_none];exact zaR ⟨none,H,I,.none,h⟩
def w6 (h:PE X e te):PO X (some e) (Cw te):=by
 intro pins s σ H Q I hw;rw [evalPart_some];refine thn (h pins s σ H _ I hw) fun u s1 ⟨x,H1,I1,r1,q1⟩=>?_;obtain ⟨i,rfl,q⟩:=q1;obtain ⟨t,rfl⟩:=r1;exact ⟨some i,H1,I1,.int i t,q⟩
def SlR (X:Cx) (r:V->Option Int->Option Int->Hp->VK->Prop):Prop :=
 ∀ (pins:List (Addr × Obj)) (s:Shared) (σ:St) (H:Hp) (x:V) (v vl vu:Value) (lo hi:Option Int) (sl:Addr) (Q:VK),Inv X pins σ H s->RelV x v->s.heap.IsSliceOf sl vl vu .none->IsPart vl lo->IsPart vu hi->r x lo hi H Q ->
  ∃ T id,typeLookup (.type T) "__getitem__"=pure (some (.builtin id))/\s.TypeIs v T/\wpAny (model X.prog X.w) X.A (getItem v (.ref sl)) (EP X pins σ Q) X.xe s
def tSl (r:V->Option Int->Option Int->Hp->VK->Prop) (te:TE) (tl th:TO):TE:=fun σ H Q=>te σ H fun x H1=>tl σ H1 fun l H2=>th σ H2 fun u H3=>r x l u H3 Q
def pV {r:V->Option Int->Option Int->Hp->VK->Prop} (hr:SlR X r) (he:PE X e te) (hl:PO X lo tl) (hu:PO X hi th):PE X (.Subscript e (.Slice lo hi none p2) pos) (tSl r te tl th):=by
 intro pins s σ H Q I h;refine Subscript_ (thn (he pins s σ H _ I h) fun v s1 ⟨x,H1,I1,r1,q1⟩=>?_);refine wpAny_Slice (thn (hl pins s1 σ H1 _ I1 q1) fun vl s2 ⟨l,H2,I2,pl,q2⟩=>thn (hu pins s2 σ H2 _ I2 q2) fun vu s3 ⟨u,H3,I3,pu,q3⟩=>?_);rw [evalPart_none];refine zaR ?_;have I4:Inv X pins σ H3 { s3 with heap:=s3.heap.push { cls:=.type "slice",data:=.fields #[vl,vu,.none] } }:=I3.kept (t':=s3.toks) fun b ob q=>zaf _ q;obtain ⟨T,id,hT,ht,hg⟩:=hr pins { s3 with heap:=s3.heap.push { cls:=.type "slice",data:=.fields #[vl,vu,.none] } } σ H3 x v vl vu l u s3.heap.objs.size Q I4 r1 (Heap.IsSliceOf.new ..) pl pu q3;show wpAny (model X.prog X.w) X.A (subscriptTail e (.Slice lo hi none p2) v (.ref s3.heap.objs.size)) (EP X pins σ Q) X.xe { s3 with heap:=s3.heap.push { cls:=.type "slice",data:=.fields #[vl,vu,.none] } };exact tail_any (ops:=[.ref s3.heap.objs.size,v]) ht hT hg (by with_unfolding_all rfl)
def jR (xs:List V) (lo hi:Option Int):List V:=(xs.drop (HT.sIx xs.length 0 lo)).take (HT.sIx xs.length xs.length hi - HT.sIx xs.length 0 lo)
def l7 (xs:List V) (lo hi:Option Int):(jR xs lo hi).length<=xs.length:=by
 unfold jR;rw [List.length_take,zaF];omega
end
def ixN (n:Nat) (i:Int):Option Nat:=if 0<=i then (if i < n then some i.toNat else none) else if -(n:Int)<=i then some (i+n).toNat else none
def atI {α:Type} (xs:List α) (i:Int):Option α:=(ixN xs.length i).bind fun j=>xs[j]?
def mz {n:Nat} {i:Int} {j:Nat} (h:ixN n i=some j):seqIndex? i n=some j/\j < n/\-(n:Int)<=i/\i < n:=by
 unfold ixN at h;by_cases h0:0<=i
 ·rw [if_pos h0] at h;by_cases h1:i < n
  ·rw [if_pos h1] at h;have e:i.toNat=j:=zat h;exact ⟨by rw [seqIndex_of h0 h1,e],by omega,by omega,h1⟩
  ·rw [if_neg h1] at h; cases h
 ·rw [if_neg h0] at h;by_cases h1:-(n:Int)<=i
  ·rw [if_pos h1] at h;have e:(i+n).toNat=j:=zat h;exact ⟨by rw [seqIndex_neg (by omega) h1,e],by omega,h1,by omega⟩
  ·rw [if_neg h1] at h; cases h
def jU {α:Type} {xs:List α} {i:Int} {v:α} (h:atI xs i=some v):∃ j,seqIndex? i xs.length=some j/\xs[j]?=some v/\j < xs.length/\-(xs.length:Int)<=i/\i < xs.length:=by
 unfold atI at h;cases e:ixN xs.length i with
 | none=>rw [e] at h; cases h
 | some j =>
  rw [e] at h;obtain ⟨h1,h2,h3,h4⟩:=mz e;exact ⟨j,h1,h,h2,h3,h4⟩
def b0 (b:Expr):Prop:=∀ o i,subscripted b false o i=operate [o,i] (getItem o i)
def IxR (X:Cx) (r:R2):Prop :=
 ∀ (value slice:Expr) (pins:List (Addr × Obj)) (s:Shared) (σ:St) (H:Hp) (x y:V) (v u:Value) (Q:VK),Inv X pins σ H s->RelV x v->RelV y u->r x y H Q ->
  subscripted slice false v u=operate [v,u] (getItem v u)->wpAny (model X.prog X.w) X.A (subscriptTail value slice v u) (EP X pins σ Q) X.xe s
def MtR (X:Cx) (id:String) (r:V->List V->Hp->VK->Prop):Prop :=
 ∀ (pins:List (Addr × Obj)) (s:Shared) (σ:St) (H:Hp) (x:V) (xs:List V) (v:Value) (us:List Value) (Q:VK),Inv X pins σ H s->RelV x v->Vals xs us->r x xs H Q ->
  wpAny (model X.prog X.w) X.A (call (.builtin id) (v :: us)) (EP X pins σ Q) X.xe s
section
variable {X:Cx} {a b:Expr} {ta tb:TE} {pos:Pos}
def IxR.or {r r':R2} (h:IxR X r) (h':IxR X r'):IxR X (fun x y H Q=>r x y H Q\/r' x y H Q):=by
 intro value slice pins s σ H x y v u Q I rx ry q hs;rcases q with q | q
 ·exact h value slice pins s σ H x y v u Q I rx ry q hs
 ·exact h' value slice pins s σ H x y v u Q I rx ry q hs
def kx {r:R2} (hr:IxR X r) (ha:PE X a ta) (hb:PE X b tb) (hs:b0 b):PE X (.Subscript a b pos) (tOp r ta tb):=by
 intro pins s σ H Q I h;exact Subscript_ (qP ha hb I h fun v u s2 x y H2 I2 rx ry q=>hr a b pins s2 σ H2 x y v u Q I2 rx ry q (hs _ _))
def m3 (K:PySem.W.Frag):R2:=fun x y H Q=>∃ p xs i v,x=.ref p/\y=.int i/\SqL K H p xs/\atI xs i=some v/\Q v H
def AH (K:PySem.W.Frag):R2:=fun x y H Q=>∃ p xs i v,x=.ref p/\y=.int i/\SqT K H p xs/\atI xs i=some v/\Q v H
def AI:R2:=fun x y H Q=>∃ z i c,x=.str z/\y=.int i/\z.length<=sizeLine/\atI z.cps.toList i=some c/\Q (.str ⟨#[c]⟩) H
def ix_list:IxR X (m3 X.K):=by
 intro value slice pins s σ H x y v u Q I rx ry h hs;obtain ⟨p,xs,i,z,rfl,rfl,hq,he,q⟩:=h;cases rx;obtain ⟨t,rfl⟩:=ry;obtain ⟨its,r,pl,hz⟩:=I.list hq;obtain ⟨j,h1,h2,h3,h4,h5⟩:=jU he;obtain ⟨w,ew,rw'⟩:=r.get h2;have hl:=r.length;have hn:=fH;have fin:EP X pins σ Q w s:=⟨z,H,I,rw',q⟩;by_cases h0:0<=i
 ·have hj:i.toNat=j:=by
   rw [seqIndex_of h0 h5] at h1;exact zat h1
  exact item_listR pl.isList h0 (by omega) (by rw [hj]; simpa using ew) fin hs
 ·have hj:(i+(its.toArray.size:Int)).toNat=j:=by
   rw [seqIndex_neg (by omega) h4] at h1;rw [zai,<- hl];exact zat h1
  exact subscriptTail_builtinR (x:=w) pl.isList.typeIs slot_list_getitem.lookup
   (wpAny_getItem_list_neg (Q:=fun r s'=>r=w/\EP X pins σ Q r s') pl.isList (by omega) (by rw [zai] <;> omega) (by omega) (by rw [hj]; simpa using ew) ⟨rfl,fin⟩) hs
def ix_tup:IxR X (AH X.K):=by
 intro value slice pins s σ H x y v u Q I rx ry h hs;obtain ⟨p,xs,i,z,rfl,rfl,hq,he,q⟩:=h;cases rx;obtain ⟨t,rfl⟩:=ry;obtain ⟨its,r,pl,hz⟩:=I.tuple hq;obtain ⟨j,h1,h2,h3,h4,h5⟩:=jU he;obtain ⟨w,ew,rw'⟩:=r.get h2;have hl:=r.length;have hn:=fH;have fin:EP X pins σ Q w s:=⟨z,H,I,rw',q⟩;exact subscriptTail_builtinR (x:=w) pl.typeIs slot_tuple_getitem.lookup
  (getItem_tuple (j:=j) (Q:=fun r s'=>r=w/\EP X pins σ Q r s') pl (by omega) (by omega) (by rw [zai,<- hl]; exact h1) (by simpa using ew) ⟨rfl,fin⟩) hs
def Bu:IxR X AI:=by
 intro value slice pins s σ H x y v u Q I rx ry h hs;obtain ⟨z,i,c,rfl,rfl,hz,he,q⟩:=h;obtain ⟨t,rfl⟩:=rx;obtain ⟨t',rfl⟩:=ry;obtain ⟨j,h1,h2,h3,h4,h5⟩:=jU he;have hl:z.cps.toList.length=z.length:=by simp [Str.length]
 rw [hl] at h1 h4 h5;have hn:=fH;exact tail_any (typeIs_str s z t) slot_str_getitem.lookup (getItem_str (c:=c) (by
  have e1:decide (i < -(2 ^ 63:Int))=false:=zaA (by omega);have e2:decide (i >= 2 ^ 63)=false:=zaA (by omega);rw [e1,e2,Bool.or_false]) (by rw [h1]; simpa using h2) ⟨.str ⟨#[c]⟩,H,I.tok _,⟨_,rfl⟩,q⟩) hs
def rIx (K:PySem.W.Frag):R2:=fun x y H Q=>m3 K x y H Q\/AH K x y H Q\/AI x y H Q
def ix_seq:IxR X (rIx X.K):=ix_list.or (ix_tup.or Bu)
def m8 (its:List Value) (n j:Nat) (u:Value):Obj.mapSeq (·.setIfInBounds j u) { cls:=.type "list",data:=.seq its.toArray n }={ cls:=.type "list",data:=.seq (its.set j u).toArray n }:=by
 simp [Obj.mapSeq]
def Inv.lst {pins:List (Addr × Obj)} {σ:St} {H:Hp} {s:Shared} {p:Addr} {xs:List V} (I:Inv X pins σ H s) (h:H p=some (.lst xs)) :
  ∃ (its:List Value) (n:Nat),Vals xs its/\s.heap.get? p=some { cls:=.type "list",data:=.seq its.toArray n }/\xs.length<=sizeLine:=by
 obtain ⟨z,its,n,r,e⟩:=I.hok p _ h;exact ⟨its,n,r,e,z⟩
def Inv.lstUpd {pins:List (Addr × Obj)} {σ:St} {H:Hp} {s:Shared} {p:Addr} {xs ys:List V} {its its':List Value} {n n':Nat} {f:Obj->Obj} (I:Inv X pins σ H s) (h:H p=some (.lst xs))
  (ho:s.heap.get? p=some { cls:=.type "list",data:=.seq its.toArray n }) (hf:f { cls:=.type "list",data:=.seq its.toArray n }={ cls:=.type "list",data:=.seq its'.toArray n' }) (r:Vals ys its') (hz:ys.length<=sizeLine) (t:Nat) :
  Inv X pins σ (upd H p (.lst ys)) { s with heap:=s.heap.update p f,toks:=t }:=by
 have e:(s.heap.update p f).get? p=some { cls:=.type "list",data:=.seq its'.toArray n' }:=by
  rw [Heap.get?_update_self f ho (by rw [hf] <;> rfl),hf]
 refine I.write (x:=p) (e:=p) (by rw [h]; trivial) (.inl rfl) (fun b u hb q=>(Heap.get?_update_other _ _ (Ne.symm hb)).trans q) ⟨_,e⟩ ?_;exact ⟨hz,its',n',r,e⟩
def wp:V->V->V->Hp->(Hp->Prop)->Prop:=fun o i v H Q=>∃ p xs k j,o=.ref p/\i=.int k/\H p=some (.lst xs)/\ixN xs.length k=some j/\Q (upd H p (.lst (xs.set j v)))
def pL:Cq X wp:=by
 intro pins s σ H o i v ov iv u Q I ro ri rv h;obtain ⟨p,xs,k,j,rfl,rfl,hp,hj,q⟩:=h;cases ro;obtain ⟨t,rfl⟩:=ri;obtain ⟨its,n,r,ho,hz⟩:=I.lst hp;obtain ⟨h1,h2,h3,h4⟩:=mz hj;have hl:=r.length;have hn:=fH;have I':Inv X pins σ (upd H p (.lst (xs.set j v))) { s with heap:=s.heap.update p (Obj.mapSeq (·.setIfInBounds j u)) } :=
  I.lstUpd hp ho (m8 its n j u) (r.set rv j) (by rw [zaT]; exact hz) s.toks
 by_cases h0:0<=k
 ·have hk:k.toNat=j:=by
   rw [seqIndex_of h0 h4] at h1;exact zat h1
  exact PySem.W.ki_setAt ho h0 (by omega) (by rw [zai,<- hl]; exact h4) (by rw [hk]; exact ⟨_,I',q⟩)
 ·have hk:(k+(its.toArray.size:Int)).toNat=j:=by
   rw [seqIndex_neg (by omega) h3] at h1;rw [zai,<- hl];exact zat h1
  exact PySem.W.ki_setBack ho (by omega) (by rw [zai,<- hl]; exact h3) (by omega) (by rw [hk]; exact ⟨_,I',q⟩)
def kR (lo hi:Option Int) (n:Nat):(sliceBounds lo hi none n).1=((HT.sIx n 0 lo:Nat):Int)/\(sliceBounds lo hi none n).2.1=((HT.sIx n n hi:Nat):Int)/\(sliceBounds lo hi none n).2.2=1:=by
 refine ⟨?_,?_,rfl⟩
 ·cases lo with
  | none=>simp [sliceBounds,HT.sIx]
  | some i =>
   simp only [sliceBounds,HT.sIx,Option.getD_none,show (1:Int) > 0 by decide,if_true];by_cases h:i < 0
   ·simp only [h,if_true] <;> omega
   ·simp only [h,if_false] <;> omega
 ·cases hi with
  | none=>simp [sliceBounds,HT.sIx]
  | some i =>
   simp only [sliceBounds,HT.sIx,Option.getD_none,show (1:Int) > 0 by decide,if_true];by_cases h:i < 0
   ·simp only [h,if_true] <;> omega
   ·simp only [h,if_false] <;> omega
def kr (its:List Value) (lo hi:Option Int):slicePick its.toArray lo hi none=((its.drop (HT.sIx its.length 0 lo)).take (HT.sIx its.length its.length hi - HT.sIx its.length 0 lo)).toArray:=by
 obtain ⟨h1,h2,h3⟩:=kR lo hi its.toArray.size;unfold slicePick;rw [h1,h2,h3];simp only [sliceRange_one,pick_run,zai] <;> rfl
def AF (K:PySem.W.Frag):V->Option Int->Option Int->Hp->VK->Prop:=fun x lo hi H Q=>∃ a xs,x=.ref a/\SqL K H a xs/\∀ p,H p=none->Q (.ref p) (upd H p (.lst (jR xs lo hi)))
def wQ:SlR X (AF X.K):=by
 intro pins s σ H x v vl vu lo hi sl Q I rx hs pl pu h;obtain ⟨a,xs,rfl,hx,q⟩:=h;cases rx;obtain ⟨its,r,ht,hz⟩:=I.list hx;have hlen:=r.length;refine ⟨"list",_,slot_list_getitem.lookup,ht.isList.typeIs,?_⟩;refine wpAny_getItem_list_slice ht.isList hs pl pu .none (by simp) ?_ (by rw [zai] <;> omega);rw [kr,<- hlen];refine ⟨.ref s.heap.objs.size,_,I.laid (t':=s.toks) (o:=.lst (jR xs lo hi)) (fun b ob q=>zaf _ q) (zav _) ?_,rfl,q _ (I.hok.fresh (zav _))⟩;exact ⟨zau (l7 xs lo hi) hz,_,0,(r.drop (HT.sIx xs.length 0 lo)).take (HT.sIx xs.length xs.length hi - HT.sIx xs.length 0 lo),zan _ rfl⟩
def eqV:V->V->Bool
 | .non,.non=>true
 | .bl a,.bl b=>a == b
 | .bl a,.int b=>(if a then 1 else 0) == b
 | .int a,.bl b=>a == (if b then 1 else 0)
 | .int a,.int b=>a == b
 | .str a,.str b=>a == b
 | _,_=>false
def eqU (x:V) (u:Value):Bool:=match u with
 | .none=>eqV .non x
 | .bool b=>eqV (.bl b) x
 | .int i _=>eqV (.int i) x
 | .str z _=>eqV (.str z) x
 | _=>false
def lE:CallR X (.type "list") (fun xs H Q=>∃ p ys,xs=[.ref p]/\(SqL X.K H p ys\/SqT X.K H p ys)/\∀ l,H l=none->Q (.ref l) (upd H l (.lst ys))):=by
 intro pins s σ H xs us Q I r h;obtain ⟨p,ys,rfl,hq,q⟩:=h;obtain ⟨u,rfl,rx⟩:=eT r;cases rx;have fin:∀ (its:List Value),Vals ys its->ys.length<=sizeLine->∀ (h':Heap) (c':Nat),(∀ b o',s.heap.get? b=some o'->h'.get? b=some o') ->
   h'.get? s.heap.objs.size=some { cls:=.type "list",dict:=none,data:=.seq its.toArray c',slots:=#[] }->EP X pins σ Q (.ref s.heap.objs.size) { s with heap:=h' }:=fun its r' hz h' c' kp e =>
  ⟨.ref s.heap.objs.size,_,I.laid (t':=s.toks) kp (zav _) (show ObjOk X.prog X.w _ h' _ (.lst ys) from ⟨hz,its,c',r',e⟩),rfl,q _ (I.hok.fresh (zav _))⟩
 rcases hq with hq | hq
 ·obtain ⟨its,r',pl,hz⟩:=I.list hq;have hlen:=r'.length;obtain ⟨o,ho,hc,n,hd⟩:=pl.isList;exact call_list_seq p (.inl rfl) ho hc hd (fun h' c' kp e=>fin its r' hz h' c' kp e) (by simp only [zai] <;> omega)
 ·obtain ⟨its,r',pl,hz⟩:=I.tuple hq;have hlen:=r'.length;obtain ⟨o,ho,hc,n,hd⟩:=pl;exact call_list_seq p (.inr rfl) ho hc hd (fun h' c' kp e=>fin its r' hz h' c' kp e) (by simp only [zai] <;> omega)
def tyV (K:PySem.W.Frag) (T:String) (x:V) (H:Hp):Prop:=match x with
 | .str _=>T="str"
 | .int _=>T="int"
 | .ref p=>(T="list"/\∃ xs,SqL K H p xs)\/(T="tuple"/\∃ o,K.lookup p=some o/\o.cls=.type "tuple"/\o.dict=none) \/
   (T="dict"/\((∃ kvs,H p=some (.dK kvs))\/∃ kvs,H p=some (.dT kvs)))\/(T="set"/\∃ S n,H p=some (.set S n))
 | _=>False
def nM {pins:List (Addr × Obj)} {σ:St} {H:Hp} {s:Shared} {T:String} {x:V} {v:Value} (I:Inv X pins σ H s) (r:RelV x v) (ty:tyV X.K T x H) :
  s.TypeIs v T/\∀ a,v=.ref a->∃ ob,s.heap.get? a=some ob/\ob.dict=none:=by
 cases x with
 | str z =>
  obtain ⟨t,rfl⟩:=r;cases (show T="str" from ty);exact ⟨typeIs_str s z t,fun _ e=>nomatch e⟩
 | int i =>
  obtain ⟨t,rfl⟩:=r;cases (show T="int" from ty);exact ⟨typeIs_int s i t,fun _ e=>nomatch e⟩
 | ref p =>
  cases r;rcases ty with ⟨rfl,xs,hq⟩ | ⟨rfl,o,hk,hc,hd⟩ | ⟨rfl,hk⟩ | ⟨rfl,S,n,hk⟩
  ·obtain ⟨its,_,pl,_⟩:=I.list hq;refine ⟨pl.isList.typeIs,fun a e=>?_⟩;cases e;obtain ⟨o,n,e,c,hd,_⟩:=pl;exact ⟨o,e,hd⟩
  ·refine ⟨⟨o,I.kIn p o hk,hc⟩,fun a e=>?_⟩;cases e;exact ⟨o,I.kIn _ o hk,hd⟩
  ·have z:∃ o,s.heap.get? p=some o/\o.ExactDict:=by
    rcases hk with ⟨kvs,hk⟩ | ⟨kvs,hk⟩
    ·obtain ⟨_,_,_,_,o,_,_,e,ex,_⟩:=I.hok p _ hk;exact ⟨o,e,ex⟩
    ·obtain ⟨_,_,_,_,o,_,_,e,ex,_⟩:=I.hok p _ hk;exact ⟨o,e,ex⟩
   obtain ⟨o,e,ex⟩:=z;refine ⟨⟨o,e,ex.1⟩,fun a e2=>?_⟩;cases e2;exact ⟨o,e,ex.2.1⟩
  ·obtain ⟨o,_,_,_,e,ex,_⟩:=I.hok p _ hk;refine ⟨⟨o,e,ex.1⟩,fun a e2=>?_⟩;cases e2;exact ⟨o,e,ex.2.1⟩
 | _=>exact False.elim ty
def AB (K:PySem.W.Frag) (T:String) (r:V->List V->Hp->VK->Prop) (to:TE):TE:=fun σ H Q=>to σ H fun x H1=>tyV K T x H1/\r x [] H1 Q
def tBM (K:PySem.W.Frag) (T:String) (r:V->List V->Hp->VK->Prop) (to:TE) (t:TA):TE:=fun σ H Q=>to σ H fun x H1=>tyV K T x H1/\t σ H1 fun xs H2=>r x xs H2 Q
variable {o e:Expr} {es:List Expr} {to:TE} {t:TA} {name:Str} {apos cpos:Pos} {T id:String} {r:V->List V->Hp->VK->Prop}
def A3 (pa:PlainAttrs T) (slot:Slot T name id) (hty:typeOf (.builtin id)=pure (.type "method_descriptor")) (hm:MtR X id r) (ho:PE X o to)
  (hbase:attributeBase o name X.env (eval o X.env)=eval o X.env:=by rfl) (hline:(apos.endLine == cpos.line)=true:=by rfl):PE X (.Call (.Attribute o name apos) [] [] cpos) (AB X.K T r to):=by
 intro pins s σ H Q I h;refine wpAny_Call_method0_late hbase hline (thn (ho pins s σ H _ I h) fun v s1 ⟨x,H1,I1,r1,ty,q1⟩=>?_);obtain ⟨h1,h2⟩:=nM I1 r1 ty;exact ⟨T,id,pa,slot,hty,h1,h2,Calls.callWith_builtin rfl (PySem.evalArgs_none (hm pins s1 σ H1 x [] v [] Q I1 r1 .nil q1))⟩
def wu (pa:PlainAttrs T) (slot:Slot T name id) (hty:typeOf (.builtin id)=pure (.type "method_descriptor")) (hm:MtR X id r) (ho:PE X o to) (ha:PA X (e :: es) t)
  (hbase:attributeBase o name X.env (eval o X.env)=eval o X.env:=by rfl)
  (hfew:((backTo cpos (starEach (e :: es) X.env)).all (fun x=>!x.1) && (backToKw cpos (keywordEach [] X.env)).all (fun x=>x.1.isSome)
   && decide ((e :: es).length+([]:List Keyword).length+(if ([]:List Keyword).isEmpty then 0 else 1) < 30))=true:=by rfl)
  (hline:(apos.endLine == cpos.line)=true:=by rfl) (hs:starEach (e :: es) X.env=(false,eval e X.env) :: starEach es X.env:=by rfl) (hplain:(backTo cpos (starEach es X.env)).any (·.1)=false:=by rfl) :
  PE X (.Call (.Attribute o name apos) (e :: es) [] cpos) (tBM X.K T r to t):=by
 intro pins s σ H Q I h;refine wpAny_Call_method_late hbase hfew hline rfl (thn (ho pins s σ H _ I h) fun v s1 ⟨x,H1,I1,r1,ty,q1⟩=>?_);obtain ⟨h1,h2⟩:=nM I1 r1 ty;refine ⟨T,id,pa,slot,hty,h1,h2,?_⟩;have hA:=ha cpos pins s1 σ H1 _ I1 q1;rw [hs] at hA ⊢;refine Calls.callWith_builtin (by show (false || (backTo cpos (starEach es X.env)).any (·.1))=false; rw [hplain] <;> rfl) (Calls.evalArgs_plain ?_);exact thn hA fun us s2 ⟨vs,H2,I2,r2,q2⟩=>hm pins s2 σ H2 x vs v us Q I2 r1 r2 q2
end
def MtM (X:Cx) (id:String) (r:V->List V->Hp->VK->Prop):Prop :=
 ∀ (pins:List (Addr × Obj)) (s:Shared) (σ:St) (H:Hp) (x:V) (xs:List V) (v:Value) (us:List Value) (Q:VK),Inv X pins σ H s->RelV x v->Vals xs us->r x xs H Q ->
  wpAny (model X.prog X.w) X.A (call (.builtin id) (v :: us)) (EP X pins σ Q) X.xe s
def Vals.one:∀ {x:V} {us:List Value},Vals [x] us->∃ u,us=[u]/\RelV x u
 | _,_,.cons r .nil=>⟨_,rfl,r⟩
def Vals.two {x y:V} {us:List Value} (h:Vals [x,y] us):∃ u v,us=[u,v]/\RelV x u/\RelV y v:=by
 cases h with
 | cons r t =>
  cases t with
  | cons q n =>
   cases n;exact ⟨_,_,rfl,r,q⟩
def Vals.zero:∀ {us:List Value},Vals [] us->us=[]
 | _,.nil=>rfl
def Vals.dropLast {xs:List V} {us:List Value} (h:Vals xs us):Vals xs.dropLast us.dropLast:=by
 induction h with
 | nil=>exact .nil
 | cons r t ih =>
  cases t with
  | nil=>exact .nil
  | cons q t'=>exact .cons r ih
def gi {α:Type} (l:List α):l.eraseIdx (l.length - 1)=l.dropLast:=by
 induction l with
 | nil=>rfl
 | cons a r ih =>
  cases r with
  | nil=>rfl
  | cons b r =>
   have e:(a :: b :: r).length - 1=((b :: r).length - 1)+1:=by
    have h1:(a :: b :: r).length=r.length+2:=rfl;have h2:(b :: r).length=r.length+1:=rfl;omega
   rw [e,List.eraseIdx_cons_succ,ih]
   all_goals rfl
section
variable {X:Cx} {pins:List (Addr × Obj)} {σ:St} {H:Hp} {s:Shared} {l b:Addr} {xs ys zs:List V}
def Inv.lset {its its':List Value} {n:Nat} {f:Array Value->Array Value} {t':Nat} (I:Inv X pins σ H s) (hH:H l=some (.lst xs))
  (e:s.heap.get? l=some { cls:=.type "list",data:=.seq its.toArray n }) (hf:f its.toArray=its'.toArray) (hv:Vals ys its') (hz:ys.length<=sizeLine) :
  Inv X pins σ (upd H l (.lst ys)) { s with heap:=s.heap.update l (Obj.mapSeq f),toks:=t' }:=by
 have q:=PySem.IsL.update e f;rw [hf] at q;refine I.write (x:=l) (e:=l) (by rw [hH]; exact trivial) (.inl rfl) (fun b' u hb hu=>(Heap.get?_update_other s.heap (Obj.mapSeq f) (Ne.symm hb)).trans hu) ⟨_,q⟩ ?_;exact ⟨hz,its',_,hv,q⟩
def Inv.lnew {its:List Value} {t':Nat} (I:Inv X pins σ H s) (hv:Vals ys its) (hz:ys.length<=sizeLine) :
  Inv X pins σ (upd H s.heap.objs.size (.lst ys)) { s with heap:=s.heap.push { cls:=.type "list",data:=.seq its.toArray },toks:=t' } :=
 I.laid (fun _ _ q=>zaf _ q) (zav _) ⟨hz,its,0,hv,zan _ rfl⟩
def Inv.fresh (I:Inv X pins σ H s):H s.heap.objs.size=none:=I.hok.fresh (zav _)
def Inv.lstM (I:Inv X pins σ H s) (hH:H l=some (.lst xs)):xs.length<=sizeLine/\∃ (its:List Value) (n:Nat),Vals xs its/\xs.length=its.length/\s.heap.get? l=some { cls:=.type "list",data:=.seq its.toArray n }:=by
 obtain ⟨z,its,n,r,e⟩:=I.hok l _ hH;exact ⟨z,its,n,r,r.length,e⟩
end
section
variable {X:Cx}
def jC:V->List V->Hp->VK->Prop:=fun x vs H Q=>∃ l xs y,x=.ref l/\vs=[y]/\H l=some (.lst xs)/\xs.length < sizeLine/\Q .non (upd H l (.lst (xs++[y])))
def gP:MtM X "list.append" jC:=by
 intro pins s σ H x vs v us Q I rx rv h;obtain ⟨l,xs,y,rfl,rfl,hH,hz,q⟩:=h;cases rx;obtain ⟨u,rfl,ru⟩:=rv.one;obtain ⟨z,its,n,r,hl,e⟩:=I.lstM hH;refine call_meets F.slot_list_append ⟨_,e,rfl⟩ F.entry_list_append (F.args_list_append_2 _ _) (PySem.list_append l its.toArray n u (by rw [zai]; omega)) ⟨e,?_⟩;refine ⟨.non,_,I.lset (its':=its++[u]) hH e (by simp) (r.append (.cons ru .nil)) ?_,rfl,q⟩;rw [zae,List.length_singleton];omega
def AG:V->List V->Hp->VK->Prop:=fun x vs H Q=>∃ l xs y,x=.ref l/\vs=[]/\H l=some (.lst xs)/\xs[xs.length - 1]?=some y/\Q y (upd H l (.lst xs.dropLast))
def Bc:MtM X "list.pop" AG:=by
 intro pins s σ H x vs v us Q I rx rv h;obtain ⟨l,xs,y,rfl,rfl,hH,hy,q⟩:=h;cases rx;have hus:=rv.zero;subst hus;obtain ⟨z,its,n,r,hl,e⟩:=I.lstM hH;obtain ⟨u,hu,ru⟩:=r.get hy;have hy':its.toArray[its.toArray.size - 1]?=some u:=by
  show its.toArray[its.length - 1]?=some u;rw [<- Array.getElem?_toList,<- hl];exact hu
 refine call_meets F.slot_list_pop ⟨_,e,rfl⟩ F.entry_list_pop (F.args_list_pop_1 _) (MeetsSeq.list_pop_last l its.toArray n u hy' (by rw [zai]; omega)) ⟨e,?_⟩;refine ⟨y,_,I.lset (its':=its.dropLast) hH e ?_ r.dropLast ?_,ru,q⟩
 ·show its.toArray.eraseIdxIfInBounds (its.toArray.size - 1)=its.dropLast.toArray;rw [zai,List.eraseIdxIfInBounds_toArray,gi]
 ·rw [List.length_dropLast];omega
end
section
variable {prog:Program} {w:World} {A:Around} {E:Value->Shared->Prop} {s:Shared}
end
section
variable {X:Cx}
end
end L2
namespace Att
open PySem PySem.W PySem.Calls PyProof.Rows
def jj {P:Params} {h:Heap}:∀ (ns:List Int) (vs:List Value),WellAll P h vs (ns.map WData.int)->IntsAre vs ns:=by
 intro ns
 induction ns with
 | nil =>
  intro vs w;rw [List.map_nil] at w;cases w;exact .nil
 | cons n ns ih =>
  intro vs w;rw [zar] at w;cases w with
  | cons a b =>
   cases a;exact .cons _ _ (ih _ b)
def nS {l:OpenLaw} {n:Nat} (hn:l.most=some n) {P:Params} {h:Heap} {args:List WData} {vals:List Value}
  (hpre:l.row.toRowW.claim.pre args=true) (hwl:WellAll P h vals args) :
  ∃ a vs ns,vals=[Value.ref a]/\args=[WData.list (ns.map WData.int)]/\h.get? a=some { cls:=.type "list",data:=.seq vs.toArray }/\IntsAre vs ns/\ns.length<=n:=by
 have hsh:WShape.hasAll [] args [.list .int]=true:=(pre_splitW hpre).1;have hc:l.pre.holds [] { args:=args }=true:=(pre_splitW hpre).2;obtain ⟨d,r,rfl,h1,h2⟩:=hasAllW_cons hsh;obtain rfl:=hasAllW_nil h2;obtain ⟨xs,rfl,h3⟩:=hasW_list h1;obtain ⟨ns,rfl⟩:=items_int h3;have hlen:ns.length<=n:=by
  unfold OpenLaw.pre at hc;have h4:(WTm.not (.lt (.lit (.int (n:Int))) (.len (.arg 0)))).holds [] { args:=[.list (ns.map .int)] }=true:=by
   have h4:=(holds_andW hc).1;rw [hn] at h4;exact h4
  have h5:=condW_of h4 (w_not (w_lt w_lit (w_len_list (w_arg rfl))));rw [zad] at h5;refine Nat.le_of_not_lt fun q=>?_;have q':(n:Int) < ((ns.length:Nat):Int):=by omega
  first
   | (rw [zaB q'] at h5; exact absurd h5 (by decide))
   | (simp at h5; omega)
 cases hwl with
 | cons w1 w2 =>
  cases w2;cases w1 with
  | list ho hall=>exact ⟨_,_,ns,rfl,rfl,ho,jj ns _ hall,hlen⟩
def nW (l:OpenLaw) (args:List WData):l.row.toRowW.claim.post args (.bool true) args=true :=
 postW_of (r:=l.row.toRowW) (X:=(true == true))
  (show WShape.has [] (.bool true) .bool=true by first | rfl | decide | simp [WShape.has,WShape.arms,WShape.armsAll])
  (show (WTm.eq .res (.lit (.bool true))).value [] { args:=args,res:=some (.bool true),after:=args }=some (.bool (true == true)) from w_eq_bool (w_res rfl) w_lit) rfl
def attach_call {l:OpenLaw} {n:Nat} {q:Program} {loose:List Str} {XP:(Str->Option Value)->Heap->Prop} {YP:World->Heap->Prop} {d:DefRec}
  (hn:l.most=some n) (hdf:d.params.defaults=[])
  (call:∀ (w:World) (s₀ s₁:Shared) (mg mb:Str->Option Value) (fa:Addr) (o:Obj) (pm cd doc:Value) (a:Addr) (vs:List Value) (ns:List Int),
   Ground q loose [] XP w s₀ mg mb s₁.heap->YP w s₁.heap ->
   s₁.heap.get? fa=some o->o.data=.func (docDef d.name d.params d.body d.scope pm cd doc)->s₁.heap.CodeRec cd d.name->mg d.name=some (.ref fa) ->
   s₁.heap.get? a=some { cls:=.type "list",data:=.seq vs.toArray }->IntsAre vs ns->ns.length<=n->s₁.gens=#[] ->
   codeAny (model l.prog w) callerA (.call (.ref fa) ⟨[.ref a],[]⟩) (fun r s'=>r=.ok (.ret (.bool true))/\OldK s₁.heap s'.heap/\s'.os=s₁.os/\AllBare s'.gens) s₁) :
  WalkO q loose XP YP l.row.toRowW d [] (fun f vs=>PySem.call f vs):=by
 intro w s₀ s₁ mg mb G Y fa o pm cd doc dV kV ho hd hcd hD hmg hg args vals as hpre hlay hrd hwl hlo;obtain rfl:dV=.none:=Dflts.none hD hdf;obtain rfl:kV=.none:=Dflts.noKw hD;obtain ⟨a,vs,ns,rfl,rfl,hobj,hints,hlen⟩:=nS hn hpre hwl;refine enter_call (codeAny_mono (call w s₀ s₁ mg mb fa o pm cd doc a vs ns G Y ho (fd_plain hd) hcd hmg hobj hints hlen hg) fun r s' hq=>?_);obtain ⟨rfl,h2,h3,h4⟩:=hq;exact ⟨.inl ⟨.bool true,.bool true,[],rfl,fun _=>rfl,.bool true,nW l _,fun _=>⟨List.Pairwise.nil,fun _ hm=>(nomatch hm)⟩⟩,h2,h3,h4⟩
section
variable {prog:Program} {w:World} {A:Around} {E:Value->Shared->Prop} {s:Shared} {K:Frag}
end
end Att
namespace L2
open PySem PySem.Spec PyProof.Rows
def jZ:∀ {vs:List Value} {ns:List Int},IntsAre vs ns->Vals (ns.map V.int) vs
 | _,_,.nil=>.nil
 | _,_,.cons n t h=>.cons ⟨t,rfl⟩ (jZ h)
def qU (H:Hp):Prop:=∀ b,H b=none\/∃ o xs,H b=some (.frz o (.lst xs))
def p7 {P:Program} {w:World} {K:PySem.W.Frag} {mg mb:Str->Option Value} {CX:CXT} {k:Nat} {fa a:Addr} {fd:FuncData} {x:Str} {sp:Sp} {s₁:Shared} {vs:List Value} {ns:List Int}
  (KX:K.In s₁.heap) (hns:s₁.heap.Ns mainGlobals mg) (hb:s₁.heap.Ns builtinsNs mb) (hbb:∀ x:Str,x≠"__name__"->mb x=bootBuiltins x) (hlim:s₁.heap.NoLimit) (hmods:∃ mm,s₁.heap.Ns sysModules mm) (hg:s₁.gens=#[])
  (ha:s₁.heap.get? a=some { cls:=.type "list",data:=.seq vs.toArray }) (hi:IntsAre vs ns) (hl:ns.length<=sizeLine) (hr:Room k callerA)
  (F:∀ base:Heap,K.In base->base.Ns mainGlobals mg->FnOk P w K mg base CX k fa fd [x] sp) (hbind:∀ (s:Shared) (u:Value),BindsTo s fd ⟨[u],[]⟩ [(x,u)])
  (hsp:∀ H:Hp,qU H->SqL K H a (ns.map V.int)->sp [.ref a] H (fun v _=>v=.bl true) fun _ _ _=>False)
  (hCX:∀ H e s',CX [] H s₁ (fun _ _ _=>False) e s'->False) :
  codeAny (model P w) callerA (.call (.ref fa) ⟨[.ref a],[]⟩) (fun r s'=>r=.ok (.ret (.bool true))/\OldK s₁.heap s'.heap/\s'.os=s₁.os/\AllBare s'.gens) s₁:=by
 have rv:=jZ hi;have lenV:=hi.length;have core:∀ H:Hp,qU H->SqL K H a (ns.map V.int)->HOk P w H s₁.heap->(∀ b,H b≠none->b=a)->(H a≠none->K.lookup a=none) ->
   codeAny (model P w) callerA (.call (.ref fa) ⟨[.ref a],[]⟩) (fun r s'=>r=.ok (.ret (.bool true))/\OldK s₁.heap s'.heap/\s'.os=s₁.os/\AllBare s'.gens) s₁:=by
  intro H hO hS hok hA hK;have base_of:∀ {b:Addr} {o:Obj},s₁.heap.get? b=some o->H b=none->(fZ s₁.heap H).get? b=some o:=fun e n=>qm e n;have noA:∀ {b:Addr} {o:Obj} {es:Array DictEntry} {ep:Nat},s₁.heap.get? b=some o->o.data=.dict es ep->H b=none:=fun {b o es ep} e d=>by
   cases q:H b with
   | none=>rfl
   | some u =>
    have e':b=a:=hA b (by rw [q]; simp);subst e';rw [ha] at e; cases e;have d':Data.seq vs.toArray _=Data.dict es ep:=d;cases d'
  have nsK:∀ {b:Addr} {m:Str->Option Value},s₁.heap.Ns b m->(fZ s₁.heap H).Ns b m:=fun {b m} ⟨o,es,ep,e,d,r⟩=>⟨o,es,ep,base_of e (noA e d),d,r⟩;have hKb:K.In (fZ s₁.heap H):=fun b o e=>base_of (KX b o e) (by
   cases q:H b with
   | none=>rfl
   | some u =>
    have e':b=a:=hA b (by rw [q]; simp);subst e';rw [hK (by rw [q]; simp)] at e; cases e)
  have hM:Mod K mg (fZ s₁.heap H):=⟨hKb,nsK hns,⟨mb,nsK hb,hbb⟩,let ⟨mc,h1,h2⟩:=hlim; ⟨mc,nsK h1,h2⟩,let ⟨mm,h1⟩:=hmods; ⟨mm,nsK h1⟩⟩;have e0:Env0 P w K mg (fZ s₁.heap H) callerA [] s₁ H:=⟨rfl,hM,fun b o e=>xi e,Nat.le_of_eq (oI _ _),trivial,fun b hb=>absurd (show b∈([]:List Addr) from hb) (by simp),hok,.of_eq hg⟩;refine codeAny_mono ((F _ hKb (nsK hns)).run callerA [] s₁ H ⟨[.ref a],[]⟩ [.ref a] [.ref a] _ _ hr e0 (hbind s₁ (.ref a)) (.cons rfl .nil) (hsp H hO hS)) fun r s' h=>?_;cases r with
  | error e=>exact (hCX H e s' h).elim
  | ok fl =>
   cases fl with
   | next=>exact False.elim h
   | brk=>exact False.elim h
   | cont=>exact False.elim h
   | ret u =>
    obtain ⟨v,H',os,bare,un,hok',r',q⟩:=h;have q':v=.bl true:=q;subst q';obtain rfl:u=Value.bool true:=r';refine ⟨rfl,OldK.of_keep fun b o e=>?_,os,bare⟩;cases q:H b with
    | none=>exact un.keep b o e q (by intro z; exact absurd (show b∈([]:List Addr) from z) (by simp)) (by simp)
    | some u =>
     rcases hO b with z | ⟨ob,xs,z⟩
     ·rw [q] at z; cases z
     ·have z2:=un.frzs b ob _ z;obtain ⟨e1,_⟩:=hok b _ z;obtain ⟨e2,_⟩:=hok' b _ z2;rw [e] at e1; cases e1;exact e2
 cases hk:K.lookup a with
 | some o =>
  have e:=KX a o hk;rw [ha] at e;cases e;refine core (fun _=>none) (fun _=>.inl rfl) (.inr ⟨_,vs.toArray,_,hk,rfl,rfl,rfl,by rw [zai,lenV]; exact hl,by simpa using rv⟩) (fun b u z=>by have z':(none:Option HO)=some u:=z; cases z') (fun b z=>absurd rfl z) fun z=>absurd rfl z
 | none =>
  refine core (fun b=>if b=a then some (.frz { cls:=.type "list",data:=.seq vs.toArray } (.lst (ns.map V.int))) else none) (fun b=>?_) (.inl (.inr ⟨{ cls:=.type "list",data:=.seq vs.toArray },if_pos rfl⟩)) (fun b u z=>?_) (fun b z=>?_) fun _=>hk
  ·by_cases hb:b=a
   ·exact .inr ⟨_,_,if_pos hb⟩
   ·exact .inl (if_neg hb)
  ·by_cases hb:b=a
   ·have z':=(if_pos hb).symm.trans z;cases z';subst hb;exact ⟨ha,by rw [zad]; exact hl,vs,_,rv,ha⟩
   ·have z':=(if_neg hb).symm.trans z;cases z'
  ·by_cases hb:b=a
   ·exact hb
   ·exact absurd (if_neg hb) z
def walk_of {l:PySem.W.OpenLaw} {n k:Nat} {q:Program} {loose:List Str} {XP:(Str->Option Value)->Heap->Prop} {YP:World->Heap->Prop} {d:DefRec} {K:Params->PySem.W.Frag} {CX:World->CXT} {sp:World->Sp} {x:Str}
  (hn:l.most=some n) (hn2:n<=sizeLine) (hdf:d.params.defaults=[]) (hr:Room k callerA)
  (hq:importsNone q=true) (hY:∀ (w:World) (h:Heap),YP w h->(K w.params).In h)
  (F:∀ (w:World) (mg:Str->Option Value) (fa:Addr) (h:Heap),(K w.params).In h->h.Ns mainGlobals mg->mg d.name=some (.ref fa) ->
   ∃ fd:FuncData,(∀ (s:Shared) (u:Value),BindsTo s fd ⟨[u],[]⟩ [(x,u)]) /\
    ∀ base:Heap,(K w.params).In base->base.Ns mainGlobals mg->FnOk l.prog w (K w.params) mg base (CX w) k fa fd [x] (sp w))
  (hsp:∀ (w:World) (H:Hp) (a:Addr) (ns:List Int),ns.length<=n->qU H->SqL (K w.params) H a (ns.map V.int)->sp w [.ref a] H (fun v _=>v=.bl true) fun _ _ _=>False)
  (hCX:∀ (w:World) (H:Hp) (s:Shared) (e:Value) (s':Shared),CX w [] H s (fun _ _ _=>False) e s'->False) :
  PySem.W.WalkO q loose XP YP l.row.toRowW d [] (fun f vs=>PySem.call f vs):=by
 refine Att.attach_call hn hdf fun w s₀ s₁ mg mb fa o pm cd doc a vs ns G Y ho hd hcd hmg hobj hints hlen hg=>?_;have KX:=hY w _ Y;obtain ⟨fd,hb,hF⟩:=F w mg fa _ KX G.T.g hmg;exact p7 KX G.T.g G.T.b G.T.builtins G.T.nolimit (let ⟨mm,hm,_⟩:=(G.T.seer hq).mods; ⟨mm,hm⟩) hg hobj hints (zau hlen hn2) hr hF hb (fun H hO hS=>hsp w H a ns hlen hO hS) fun H e s'=>hCX w H s₁ e s'
def cD (s:Stmt):Arguments:=match s with
 | .FunctionDef _ a _ _ _ _ _ _ _ _=>a
 | _=>{ posonlyargs:=[],args:=[],vararg:=none,kwonlyargs:=[],kw_defaults:=[],kwarg:=none,defaults:=[] }
def bH (s:Stmt):List Stmt:=match s with
 | .FunctionDef _ _ b _ _ _ _ _ _ _=>b
 | _=>[]
def am (s:Stmt):Scope:=match s with
 | .FunctionDef _ _ _ _ _ _ sc _ _ _=>sc
 | _=>{ kind:=.function,names:=[],isGenerator:=false,isCoroutine:=false }
abbrev CX0:CXT:=fun _ _ _ _ _ _=>False
abbrev E0:XK:=fun _ _ _=>False
def CJ {X:Cx}:lK CX0 X E0:=fun _ _ _ _ _ _ _ h=>h.elim
structure Fun (K:PySem.W.Frag) (x qual:Str) (st:Stmt) (f:Addr) (fd:FuncData):Prop where
 ex:∃ (oc:Value) (od:Option Addr) (kV doc pm:Value) (an:Option Addr) (cdv ct:Value) (osl:Array (Option Value)),
  fd=PySem.W.fnOf x qual (cD st) (bH st) (am st) .none kV doc pm an cdv ct/\K.lookup f=some ⟨oc,od,.func fd,osl⟩/\PySem.W.codeIn K cdv qual=true
 kp:PySem.W.keepIn K (.ref f)=true
section
variable {P:Program} {w:World} {K:PySem.W.Frag} {mg:Str->Option Value} {base:Heap}
def Fun.ok {x qual:Str} {st:Stmt} {f:Addr} {fd:FuncData} {N ps:List Str} {k:Nat} {sp:Sp} (F:Fun K x qual st f fd) (S:FnScope N ps (am st)) (len:∀ vs H Q E,sp vs H Q E->vs.length=ps.length)
  (hbody:∀ (cdv:Value) (A:Around) (outer:List Env) (s:Shared) (H:Hp) (vs:List V) (Q:VK) (E:XK),Room k (A.deeper (envOfC qual (am st) s.heap.objs.size f cdv))->sp vs H Q E ->
   ∃ t,PSs (iS CX0 P w K mg base N qual (am st) f cdv A outer s H E).nox (bH st) t/\t { nx:=fun _ H'=>Q .non H',rt:=Q } (bW N vs) H):FnOk P w K mg base CX0 (k+1) f fd ps sp:=by
 obtain ⟨oc,od,kV,doc,pm,an,cdv,ct,osl,rfl,lk,hcd⟩:=F.ex;refine C1 lk hcd S len fun A outer s H vs Q E hr hsp=>?_;obtain ⟨t,h,q⟩:=hbody cdv A outer s H vs Q E hr hsp;exact ⟨t,h.nox,q⟩
def Fun.binds {x qual:Str} {st:Stmt} {f:Addr} {fd:FuncData} {ps:List Str} (F:Fun K x qual st f fd)
  (h:∀ (kV doc pm:Value) (an:Option Addr) (cdv ct:Value) (us:List Value),us.length=ps.length->bindArgs (PySem.W.fnOf x qual (cD st) (bH st) (am st) .none kV doc pm an cdv ct) ⟨us,[]⟩=pure (ps.zip us)):Binds K fd ps []:=by
 obtain ⟨oc,od,kV,doc,pm,an,cdv,ct,osl,rfl,lk,hcd⟩:=F.ex;exact .all (h kV doc pm an cdv ct)
def oJ {x qual:Str} {st:Stmt} {f:Addr} {oc:Value} {od an:Option Addr} {osl:Array (Option Value)} {kV doc pm cdv ct:Value} (l:K.lookup f=some ⟨oc,od,.func (PySem.W.fnOf x qual (cD st) (bH st) (am st) .none kV doc pm an cdv ct),osl⟩)
  (c:PySem.W.codeIn K cdv qual=true) (k:PySem.W.keepIn K (.ref f)=true):Fun K x qual st f (PySem.W.fnOf x qual (cD st) (bH st) (am st) .none kV doc pm an cdv ct):=⟨⟨oc,od,kV,doc,pm,an,cdv,ct,osl,rfl,l,c⟩,k⟩
end
def jk {A:Around} {k:Nat} (hr:Room k A):A.units+1 < cLine:=Nat.lt_of_le_of_lt (Nat.add_le_add_left (by decide:1<=64) _) hr.units
section
variable {X:Cx}
def pv (i:Nat) {x:Str} {pos:Pos} (hN:X.N[i]?=some x:=by rfl) (hv:Vis X.env.scope x:=by first | exact Or.inl rfl | exact Or.inr (Or.inl rfl) | exact Or.inr (Or.inr rfl)) (hd:(x == ("__debug__" : Str))=false:=by decide)
  (hcd:(x == ("__classdict__" : Str))=false:=by decide):PE X (.Name x pos) (cR i):=bG hN hv hd hcd
end
section
variable {κ:Type} [DecidableEq κ]
def cu (kvs:List (κ × V)) (k:κ):Option V:=(kvs.find? fun kv=>decide (kv.1=k)).map (·.2)
def bp (kvs:List (κ × V)) (k:κ) (v:V):List (κ × V) :=
 if (kvs.any fun kv=>decide (kv.1=k))=true then kvs.map (fun kv=>if kv.1=k then (kv.1,v) else kv) else kvs++[(k,v)]
def fP {p:κ × V} {r:List (κ × V)} {k:κ} (e:p.1=k):cu (p :: r) k=some p.2:=by simp [cu,List.find?_cons,e]
def fQ {p:κ × V} {r:List (κ × V)} {k:κ} (e:¬ p.1=k):cu (p :: r) k=cu r k:=by simp [cu,List.find?_cons,e]
def kL (k:κ):∀ kvs:List (κ × V),(kvs.any fun kv=>decide (kv.1=k))=(cu kvs k).isSome
 | []=>rfl
 | p :: r=>by
  rw [List.any_cons];by_cases e:p.1=k
  ·simp only [fP e,zaB e,Bool.true_or,Option.isSome_some]
  ·rw [fQ e,zaA e,Bool.false_or]; exact kL k r
def e9 (kvs:List (κ × V)) (k:κ) (v:V):(bp kvs k v).length<=kvs.length+1:=by
 unfold bp;split
 ·rw [zad]; omega
 ·rw [zae,zac,List.length_nil]; omega
def RelO.isSome_eq {o:Option V} {u:Option Value} (r:RelO o u):o.isSome=u.isSome:=by
 cases o with
 | none=>cases u with
  | none=>rfl
  | some _=>exact (show False from r).elim
 | some _=>cases u with
  | none=>exact (show False from r).elim
  | some _=>rfl
def KV.val {kvs:List (κ × V)} {vs:List (κ × Value)} (r:KV kvs vs) (k:κ):RelO (cu kvs k) (valueAt vs k):=by
 unfold KV at r
 induction r with
 | nil=>exact True.intro
 | @cons p q ps qs h t ih =>
  obtain ⟨h1,h2⟩:=h;by_cases e:p.1=k
  ·have e':q.1=k:=h1.symm.trans e;have b:valueAt (q :: qs) k=some q.2:=by simp [valueAt,List.find?_cons,e']
   rw [fP e,b]; exact h2
  ·have e':¬ q.1=k:=fun z=>e (h1.trans z);have b:valueAt (q :: qs) k=valueAt qs k:=by simp [valueAt,List.find?_cons,e']
   rw [fQ e,b]; exact ih
def KV.any {kvs:List (κ × V)} {vs:List (κ × Value)} (r:KV kvs vs) (k:κ):(kvs.any fun kv=>decide (kv.1=k))=vs.any fun kv=>decide (kv.1=k):=by
 unfold KV at r
 induction r with
 | nil=>rfl
 | cons h t ih=>rw [List.any_cons,List.any_cons,ih,h.1]
def KV.repl {kvs:List (κ × V)} {vs:List (κ × Value)} (r:KV kvs vs) (k:κ) {y:V} {u:Value} (ry:RelV y u) :
  KV (kvs.map fun kv=>if kv.1=k then (kv.1,y) else kv) (vs.map fun kv=>if kv.1=k then (kv.1,u) else kv):=by
 unfold KV at r ⊢
 induction r with
 | nil=>exact .nil
 | @cons p q ps qs h t ih =>
  rw [zar,zar];refine .cons ?_ ih;obtain ⟨h1,h2⟩:=h;by_cases e:p.1=k
  ·rw [if_pos e,if_pos (h1.symm.trans e)]; exact ⟨h1,ry⟩
  ·rw [if_neg e,if_neg (fun z=>e (h1.trans z))]; exact ⟨h1,h2⟩
def KV.put {kvs:List (κ × V)} {vs:List (κ × Value)} (r:KV kvs vs) (k:κ) {y:V} {u:Value} (ry:RelV y u):KV (bp kvs k y) (stored vs k u):=by
 unfold bp stored;rw [r.any k];by_cases e:(vs.any fun kv=>decide (kv.1=k))=true
 ·rw [if_pos e,if_pos e]; exact r.repl k ry
 ·rw [if_neg e,if_neg e]; exact Paired.snoc r ⟨rfl,ry⟩
def KV.keys {kvs:List (κ × V)} {vs:List (κ × Value)} (r:KV kvs vs):kvs.map (·.1)=vs.map (·.1):=by
 unfold KV at r
 induction r with
 | nil=>rfl
 | cons h t ih=>rw [zar,zar,ih,h.1]
def KV.length {kvs:List (κ × V)} {vs:List (κ × Value)} (r:KV kvs vs):kvs.length=vs.length:=Paired.length r
end
def kz {P:Program} {w:World} {k:Key} {u:Value} (r:RelV (kV k) u):(aM P w).is k u=true:=by
 cases k with
 | inl i=>obtain ⟨t,e⟩:=(show ∃ t,u=Value.int i t from r); subst e; exact l4 P w i t
 | inr x=>obtain ⟨t,e⟩:=(show ∃ t,u=Value.str x t from r); subst e; exact lZ P w x t
def ka {P:Program} {w:World}:∀ {ks:List Key} {us:List Value},Vals (ks.map kV) us->ItemsAre (aM P w) ks us
 | [],_,r=>by rw [List.map_nil] at r; cases r; exact .nil
 | k :: ks,_,r=>by
  rw [zar] at r;cases r with
  | cons h t=>exact .cons (kz h) (ka t)
abbrev KT (H:Hp):List (List Key × V)->List (List Key × Addr × Value)->Prop:=Paired fun p q=>p.1=q.1/\H q.2.1=some (.tup (p.1.map kV))/\RelV p.2 q.2.2
def KT.val {H:Hp} {kvs:List (List Key × V)} {xs:List (List Key × Addr × Value)} (r:KT H kvs xs) (k:List Key):RelO (cu kvs k) ((atKey xs k).map (·.2)):=by
 induction r with
 | nil=>exact True.intro
 | @cons p q ps qs h t ih =>
  obtain ⟨h1,_,h2⟩:=h;by_cases e:p.1=k
  ·have e':q.1=k:=h1.symm.trans e;have b:atKey (q :: qs) k=some q.2:=by simp [atKey,List.find?_cons,e']
   rw [fP e,b]; exact h2
  ·have e':¬ q.1=k:=fun z=>e (h1.trans z);have b:atKey (q :: qs) k=atKey qs k:=by simp [atKey,List.find?_cons,e']
   rw [fQ e,b]; exact ih
def KT.repl {H:Hp} {kvs:List (List Key × V)} {xs:List (List Key × Addr × Value)} (r:KT H kvs xs) (k:List Key) {y:V} {u:Value} (ry:RelV y u) :
  KT H (kvs.map fun kv=>if kv.1=k then (kv.1,y) else kv) (xs.map (putAt k u)):=by
 induction r with
 | nil=>exact .nil
 | @cons p q ps qs h t ih =>
  rw [zar,zar];refine .cons ?_ ih;obtain ⟨h1,h2,h3⟩:=h;unfold putAt;by_cases e:p.1=k
  ·rw [if_pos e,if_pos (h1.symm.trans e)]; exact ⟨h1,h2,ry⟩
  ·rw [if_neg e,if_neg (fun z=>e (h1.trans z))]; exact ⟨h1,h2,h3⟩
def KT.put {H:Hp} {kvs:List (List Key × V)} {xs:List (List Key × Addr × Value)} (r:KT H kvs xs) (k:List Key) {b:Addr} {y:V} {u:Value} (hb:H b=some (.tup (k.map kV))) (ry:RelV y u) :
  KT H (bp kvs k y) (storedH xs k b u):=by
 have e:(kvs.any fun kv=>decide (kv.1=k))=(atKey xs k).isSome:=by
  rw [kL,(r.val k).isSome_eq,Option.isSome_map]
 unfold bp storedH;rw [e];by_cases q:(atKey xs k).isSome=true
 ·rw [if_pos q,if_pos q]; exact r.repl k ry
 ·rw [if_neg q,if_neg q]; exact Paired.snoc r ⟨rfl,hb,ry⟩
def KT.keeps {H H':Hp} {kvs:List (List Key × V)} {xs:List (List Key × Addr × Value)} (r:KT H kvs xs) (ht:∀ b ys,H b=some (.tup ys)->H' b=some (.tup ys)):KT H' kvs xs :=
 Paired.mapP r fun _ _ z=>⟨z.1,ht _ _ z.2.1,z.2.2⟩
section
variable {P:Program} {w:World} {H:Hp} {h:Heap} {a:Addr}
def wo {u:HO} (ok:HOk P w H h) (e:Rd H a u):ObjOk P w H h a u:=e.ok ok
def wL {kvs:List (Key × V)} (ok:HOk P w H h) (e:Rd H a (.dK kvs)):kvs.length<=sizeLine/\(a == sysModules)=false/\∃ vs,KV kvs vs/\h.DictOf (aM P w) a vs :=
 show ObjOk P w H h a (.dK kvs) from wo ok e
def kF {kvs:List (Key × V)} (ok:HOk P w H h) (e:H a=some (.dK kvs)):kvs.length<=sizeLine/\(a == sysModules)=false/\∃ vs,KV kvs vs/\h.DictOf (aM P w) a vs:=wL ok (.inl e)
def k9 {ks:List Key} (ok:HOk P w H h) (e:H a=some (.tup (ks.map kV))):(tupleKind (aM P w)).is h ks a:=by
 obtain ⟨_,its,r,o,h1,h2,n,h3⟩:=(show ObjOk P w H h a (.tup (ks.map kV)) from ok a _ e);exact ⟨o,its.toArray,n,h1,h2,h3.1,by simpa using ka r⟩
def wJ {kvs:List (List Key × V)} (ok:HOk P w H h) (e:Rd H a (.dT kvs)):kvs.length<=sizeLine/\(a == sysModules)=false /\
  ∃ xs,KT H kvs xs/\h.DictOfH (tupleKind (aM P w)) a xs:=by
 obtain ⟨z,y,xs,r,o,es,ep,h1,h2,h3,h4,h5⟩:=(show ObjOk P w H h a (.dT kvs) from wo ok e);refine ⟨z,y,xs,r,o,es,ep,h1,h2,h3,h4,fun x hx=>?_,h5⟩;have all:∀ {l:List (List Key × V)} {m:List (List Key × Addr × Value)},KT H l m->∀ x∈m,(tupleKind (aM P w)).is h x.1 x.2.1:=by
  intro l m q
  induction q with
  | nil=>intro x hx; exact nomatch hx
  | @cons p q ps qs hq t ih =>
   intro x hx;rcases zay.mp hx with e | hx
   ·subst e;exact k9 ok (by rw [<- hq.1]; exact hq.2.1)
   ·exact ih x hx
 exact all r x hx
def wK {kvs:List (List Key × V)} (ok:HOk P w H h) (e:H a=some (.dT kvs)):kvs.length<=sizeLine/\(a == sysModules)=false /\
  ∃ xs,KT H kvs xs/\h.DictOfH (tupleKind (aM P w)) a xs:=wJ ok (.inl e)
end
def DGet (H:Hp) (a:Addr) (y:V) (r:Option V):Prop :=
 (∃ kvs k,Rd H a (.dK kvs)/\y=kV k/\r=cu kvs k)\/∃ kvs k b,Rd H a (.dT kvs)/\y=.ref b/\H b=some (.tup (k.map kV))/\r=cu kvs k
def DPut (H:Hp) (a:Addr) (y v:V) (H':Hp):Prop :=
 (∃ kvs k,H a=some (.dK kvs)/\y=kV k/\kvs.length < sizeLine/\H'=upd H a (.dK (bp kvs k v))) \/
 ∃ kvs k b,H a=some (.dT kvs)/\y=.ref b/\H b=some (.tup (k.map kV))/\kvs.length < sizeLine/\H'=upd H a (.dT (bp kvs k v))
def DGet.k {H:Hp} {a:Addr} {kvs:List (Key × V)} {k:Key} (e:H a=some (.dK kvs)):DGet H a (kV k) (cu kvs k):=.inl ⟨kvs,k,.inl e,rfl,rfl⟩
def DPut.k {H:Hp} {a:Addr} {kvs:List (Key × V)} {k:Key} {v:V} (e:H a=some (.dK kvs)) (hl:kvs.length < sizeLine):DPut H a (kV k) v (upd H a (.dK (bp kvs k v))):=.inl ⟨kvs,k,e,rfl,hl,rfl⟩
section
variable {X:Cx} {pins:List (Addr × Obj)} {σ:St} {H:Hp} {s:Shared} {a:Addr} {y v:V} {u r:Value} {o:Option V} {A:Around} {E:Value->Shared->Prop}
def Inv.big (I:Inv X pins σ H s):sysModules < s.heap.objs.size:=by
 have h:mainGlobals < s.heap.objs.size:=(I.mod.glob.keeps I.bk).lt;exact Nat.lt_trans (by decide) h
def yi {Q:Value->Shared->Prop} (hu:A.units+1 < cLine) (I:Inv X pins σ H s) (g:DGet H a y o) (ry:RelV y u) (h:∀ s',Inv X pins σ H s'->Q (.bool (!o.isSome)) s') :
  wpAny (model X.prog X.w) A (compareOp .NotIn u (.ref a)) Q E s:=by
 rcases g with ⟨kvs,k,e,ey,l⟩ | ⟨kvs,k,b,e,ey,eb,l⟩
 ·subst ey;obtain ⟨z,hd,vs,rel,dd⟩:=wL I.hok e;refine wpAny_notIn_of (kz ry) hd dd.mapOf ?_;rw [<- (rel.val k).isSome_eq,<- l];exact h _ (I.tok _)
 ·subst ey;cases (show u=Value.ref b from ry);obtain ⟨z,hd,xs,rel,dd⟩:=wJ I.hok e;refine wpAny_notIn_heap (tupleKind_room_in1 hu) (k9 I.hok eb) hd dd ?_;have q:=(rel.val k).isSome_eq;rw [Option.isSome_map] at q;rw [<- q,<- l];exact h _ (I.tok _)
def mK {h':Heap} {t':Nat} {ob:HO} (I:Inv X pins σ H s) (mu:Mut (H a)) (hs:Heap.SameBut a s.heap h') (he:∃ q,h'.get? a=some q) (new:ObjOk X.prog X.w (upd H a ob) h' a ob) :
  Inv X pins σ (upd H a ob) { s with heap:=h',toks:=t' } :=
 I.write (x:=a) (e:=a) mu (.inl rfl) (fun b q hb z=>(hs.2 b hb).trans z) he new
def pp {P:Program} {w:World} {H':Hp} {h':Heap} {kvs:List (Key × V)} {vs:List (Key × Value)} (z:kvs.length<=sizeLine) (hd:(a == sysModules)=false) (rel:KV kvs vs) (dd:h'.DictOf (aM P w) a vs) :
  ObjOk P w H' h' a (.dK kvs):=⟨z,hd,vs,rel,dd⟩
def pq {H':Hp} {Q:Unit->Shared->Prop} (hu:A.units+1 < cLine) (I:Inv X pins σ H s) (g:DPut H a y v H') (ry:RelV y u) (rv:RelV v r) (h:∀ s',Inv X pins σ H' s'->Q () s') :
  wpAny (model X.prog X.w) A (setItem (.ref a) u r) Q E s:=by
 rcases g with ⟨kvs,k,e,ey,l,eH⟩ | ⟨kvs,k,b,e,ey,eb,l,eH⟩
 ·subst ey eH;obtain ⟨z,hd,vs,rel,dd⟩:=kF I.hok e;have hz:vs.length<=sizeLine:=by rw [<- rel.length]; exact z
  have hl:(bp kvs k v).length<=sizeLine:=by have:=e9 kvs k v; omega
  refine wpAny_setItem_pairs (hsz:=hz) (kz ry) dd fun h' dd' hs=>h _ ?_;have he:∃ q,h'.get? a=some q:=let ⟨q,_,_,hq,_⟩:=dd'; ⟨q,hq⟩;exact mK I (by rw [e]; exact True.intro) hs he (pp hl hd (rel.put k rv) dd')
 ·subst ey eH;cases (show u=Value.ref b from ry);obtain ⟨z,hd,xs,rel,dd⟩:=wK I.hok e;have hz:xs.length<=sizeLine:=by rw [<- Paired.length rel]; exact z
  have hl:(bp kvs k v).length<=sizeLine:=by have:=e9 kvs k v; omega
  refine wpAny_setItem_heap (hsz:=hz) (tupleKind_room_in1 hu) (k9 I.hok eb) dd fun h' dd' hs=>h _ ?_;obtain ⟨q,es,ep,hq,h2,h3,h4,_,h5⟩:=dd';refine mK I (by rw [e]; exact True.intro) hs ⟨q,hq⟩ ⟨hl,hd,_,(rel.put k eb rv).keeps fun c ys ec=>?_,q,es,ep,hq,h2,h3,h4,h5⟩;rw [aC (CO ec e (fun z=>nomatch z))];exact ec
end
section
variable {X:Cx} {pins:List (Addr × Obj)} {σ:St} {H:Hp} {s:Shared} {a:Addr} {kvs:List (Key × V)} {k:Key} {u:Value} {A:Around} {E:Value->Shared->Prop}
end
def Dw (ty td:TE):TE:=fun σ H Q=>ty σ H fun y H1=>td σ H1 fun x H2=>∃ a o,x=.ref a/\DGet H2 a y o/\Q (.bl o.isSome) H2
def md (ty td:TE):TE:=fun σ H Q=>ty σ H fun y H1=>td σ H1 fun x H2=>∃ a o,x=.ref a/\DGet H2 a y o/\Q (.bl (!o.isSome)) H2
def wn (td ty tv:TE):TS:=fun D σ H=>tv σ H fun v H1=>td σ H1 fun x H2=>ty σ H2 fun y H3=>∃ a H4,x=.ref a/\DPut H3 a y v H4/\D.nx σ H4
section
variable {X:Cx} {o i e value:Expr} {pos pos' tpos:Pos} {td ty tv:TE}
def nY (hu:X.A.units+1 < cLine) (hi:PE X i ty) (ho:PE X o td):PC X .NotIn i o (md ty td):=by
 intro pins s σ H Q I h;refine thn (hi pins s σ H _ I h) fun iv s1 ⟨y,H1,I1,ry,q1⟩=>thn (ho pins s1 σ H1 _ I1 q1) fun u s2 ⟨x,H2,I2,rx,a,ov,ex,g,q2⟩=>?_;subst ex;obtain rfl:u=Value.ref a:=rx;exact yi hu I2 g ry fun s3 I3=>⟨.bl (!ov.isSome),H2,I3,rfl,q2⟩
def w4 (hu:X.A.units+1 < cLine) (ho:PE X o td) (hi:PE X i ty) (hv:PE X value tv) (hs:swapsWith value (some (.Subscript o i pos')) pos.line X.env=pure false) :
  PS X (.Assign [.Subscript o i pos'] value pos) (wn td ty tv):=by
 intro pins s σ H D I h;refine wpAny_Assign_Subscript (thn (hv pins s σ H _ I h) fun r s1 ⟨v,H1,I1,rv,q1⟩=>thn (ho pins s1 σ H1 _ I1 q1) fun u s2 ⟨x,H2,I2,rx,q2⟩=>thn (hi pins s2 σ H2 _ I2 q2) fun iv s3 ⟨y,H3,I3,ry,a,H4,ex,g,q3⟩=>?_) hs;subst ex;obtain rfl:u=Value.ref a:=rx;exact pq hu I3 g ry rv fun s4 I4=>⟨σ,H4,I4,q3⟩
end
def qK {P:Program} {w:World} {H:Hp} (h:Heap) (hb:sysModules < h.objs.size):ObjOk P w H (h.push { cls:=.type "dict",data:=.dict #[] }) h.objs.size (.dK []) :=
 ⟨Nat.zero_le _,beq_eq_false_iff_ne.mpr (Ne.symm (zaw hb)),[],.nil,Heap.DictOf.new h⟩
def AA:TE:=fun _ H Q=>∀ p,H p=none->Q (.ref p) (upd H p (.dK []))
section
variable {X:Cx} {pos:Pos}
def pe_dnewK:PE X (.Dict [] [] pos) AA:=fun pins s σ H Q I h =>
 wpAny_Dict_empty ⟨.ref s.heap.objs.size,_,I.laid (a:=s.heap.objs.size) (o:=.dK []) (t':=s.toks) (fun _ _ q=>zaf _ q) (zav _) (qK s.heap I.big),rfl,h _ (I.hok.fresh (zav _))⟩
end
structure M1 (X:Cx) (o:Expr) (m:Str) (apos:Pos) (e:Expr) (cpos:Pos):Prop where
 base:attributeBase o m X.env (eval o X.env)=eval o X.env
 few:((backTo cpos (starEach [e] X.env)).all (fun x=>!x.1) && (backToKw cpos (keywordEach [] X.env)).all (fun x=>x.1.isSome)
  && decide (([e]:List Expr).length+([]:List Keyword).length+(if ([]:List Keyword).isEmpty then 0 else 1) < 30))=true
 line:(apos.endLine == cpos.line)=true
 trees:backTo cpos (starEach [e] X.env)=[(false,eval e X.env)]
structure M2 (X:Cx) (o:Expr) (m:Str) (apos:Pos) (e f:Expr) (cpos:Pos):Prop where
 base:attributeBase o m X.env (eval o X.env)=eval o X.env
 few:((backTo cpos (starEach [e,f] X.env)).all (fun x=>!x.1) && (backToKw cpos (keywordEach [] X.env)).all (fun x=>x.1.isSome)
  && decide (([e,f]:List Expr).length+([]:List Keyword).length+(if ([]:List Keyword).isEmpty then 0 else 1) < 30))=true
 line:(apos.endLine == cpos.line)=true
 trees:backTo cpos (starEach [e,f] X.env)=[(false,eval e X.env),(false,eval f X.env)]
section
variable {X:Cx} {pins:List (Addr × Obj)} {σ:St} {H:Hp} {s:Shared} {a:Addr} {y d:V} {u r:Value} {o:Option V} {A:Around} {E:Value->Shared->Prop}
end
section
variable {X:Cx} {o e f:Expr} {apos cpos:Pos} {td ty tx:TE}
end
section
variable {X:Cx} {pins:List (Addr × Obj)} {σ:St} {H:Hp} {s:Shared} {a:Addr} {kvs:List (Key × V)} {A:Around} {E:Value->Shared->Prop}
end
section
variable {X:Cx} {pins:List (Addr × Obj)} {σ:St} {H:Hp} {s:Shared} {a:Addr} {y:V} {u:Value} {A:Around} {E:Value->Shared->Prop}
end
section
variable {X:Cx}
end
section
variable {κ:Type} [DecidableEq κ]
def ip:∀ {l:List κ} {k:κ},l.Nodup->¬ k∈l->(l++[k]).Nodup
 | [],k,_,_=>by simp
 | a :: r,k,h,hk=>by
  obtain ⟨h1,h2⟩:=zba.mp h;show (a :: (r++[k])).Nodup;refine zba.mpr ⟨fun m=>?_,ip h2 fun m=>hk (zay.mpr (Or.inr m))⟩;rcases zax.mp m with q | q
  ·exact h1 q
  ·exact hk (zay.mpr (Or.inl (zaG.mp q).symm))
end
end L2
set_option maxHeartbeats 4000000
namespace L2
open PySem PySem.Spec PyProof.Rows
def xN {α β:Type} {l:List α} {f:α->β->Sem (ForInStep β)} {g:β->α->β} (h:∀ x∈l,∀ c,f x c=pure (.yield (g c x))):∀ c,forIn l c f=pure (l.foldl g c):=by
 induction l with
 | nil=>intro c; rfl
 | cons x l ih =>
  intro c;rw [List.forIn_cons,h x zaq,pure_bind];exact ih (fun y hy=>h y (zaj _ hy)) (g c x)
def cc (env:Env) (acc:List (Str × Addr)) (x:Str × NameKind):List (Str × Addr) :=
 if x.2 == NameKind.free then (x.1,(env.cells.lookup x.1).getD 0) :: acc else acc
def bU (env:Env) (names:List (Str × NameKind)):List (Str × Addr):=names.foldl (cc env) []
def jq {scope:Scope} {env:Env} (h:∀ y∈scope.names,y.2=.free->∃ c,env.cells.lookup y.1=some c):closureFor scope env=pure (bU env scope.names):=by
 simp only [closureFor];rw [xN (g:=cc env) (fun x hx c=>by
  obtain ⟨n,kind⟩:=x;by_cases hk:kind=.free
  ·obtain ⟨a,e⟩:=h _ hx hk;subst hk;have e':env.cells.lookup n=some a:=e;simp [cellOf,cc,e']
  ·have hb:(kind == NameKind.free)=false:=by simpa using hk
   simp [cc,hb])]
 rfl
def jr {env:Env}:∀ (names:List (Str × NameKind)) (acc:List (Str × Addr)) (p:Str × Addr),
  p∈names.foldl (cc env) acc->p∈acc\/((p.1,NameKind.free)∈names/\p.2=(env.cells.lookup p.1).getD 0)
 | [],_,_,h=>.inl h
 | (n,k) :: r,acc,p,h=>by
  rw [List.foldl_cons] at h;rcases jr r _ p h with q | ⟨q,e⟩
  ·unfold cc at q;by_cases hk:(k == NameKind.free)=true
   ·rw [if_pos hk] at q;rcases zay.mp q with z | z
    ·subst z;have hk':k=NameKind.free:=by simpa using hk
     subst hk';exact .inr ⟨zaq,rfl⟩
    ·exact .inl z
   ·rw [if_neg hk] at q;exact .inl q
  ·exact .inr ⟨zaj _ q,e⟩
def iG {env:Env}:∀ (names:List (Str × NameKind)) (acc:List (Str × Addr)) (p:Str × Addr),p∈acc->p∈names.foldl (cc env) acc
 | [],_,_,h=>h
 | x :: r,acc,p,h=>by
  rw [List.foldl_cons];refine iG r _ p ?_;unfold cc;split
  ·exact zaj _ h
  ·exact h
def ju {env:Env} {n:Str}:∀ (names:List (Str × NameKind)) (acc:List (Str × Addr)),(n,NameKind.free)∈names->∃ c,(n,c)∈names.foldl (cc env) acc
 | (m,k) :: r,acc,h=>by
  rw [List.foldl_cons];rcases zay.mp h with e | e
  ·cases e;exact ⟨(env.cells.lookup n).getD 0,iG r _ _ (by unfold cc; rw [if_pos (show (((n,NameKind.free):Str × NameKind).2 == NameKind.free)=true from rfl)]; exact zaq)⟩
  ·exact ju r _ e
def dA {α:Type}:∀ {l:List (Str × α)} {n:Str} {c:α},(n,c)∈l->∃ c',l.lookup n=some c'
 | (m,d) :: r,n,c,h=>by
  rw [zas];cases hb:n == m with
  | true=>exact ⟨d,rfl⟩
  | false =>
   rcases zay.mp h with e | e
   ·cases e;simp at hb
   ·exact dA e
def lB {env:Env} {names:List (Str × NameKind)} {n:Str} (h:(n,NameKind.free)∈names):∃ c,(bU env names).lookup n=some c :=
 let ⟨_,e⟩:=ju (env:=env) names [] h
 dA e
def kg {env:Env} {names:List (Str × NameKind)} {n:Str} {c:Addr} (h:∀ y∈names,y.2=.free->∃ c,env.cells.lookup y.1=some c) (e:(bU env names).lookup n=some c):env.cells.lookup n=some c:=by
 rcases jr names [] (n,c) (zaS e) with q | ⟨q,z⟩
 ·simp at q
 ·obtain ⟨a,ea⟩:=h _ q rfl;have z':c=(env.cells.lookup n).getD 0:=z;have ea':env.cells.lookup n=some a:=ea;rw [ea'] at z';rw [ea',z'];rfl
def fT {env:Env}:∀ {names:List (Str × NameKind)} {x:Str} {k:NameKind},
  (names.map fun (n,k)=>if (k == NameKind.free && env.scope.kind == .function && env.kindOf n == some .cell) then (n,NameKind.cell) else (n,k)).lookup x=some k ->
  names.lookup x=some k\/(names.lookup x=some .free/\k=.cell)
 | [],_,_,h=>by simp at h
 | (n,k0) :: r,x,k,h=>by
  rw [zar] at h;cases hx:x == n with
  | true =>
   rcases Bool.eq_false_or_eq_true (k0 == NameKind.free && env.scope.kind == .function && env.kindOf n == some .cell) with hc | hc
   ·simp only [hc,if_true,zas,hx] at h;have hk:k0=.free:=by
     simp only [Bool.and_eq_true,beq_iff_eq] at hc;exact hc.1.1
    refine .inr ⟨?_,?_⟩
    ·simp only [zas,hx,hk]
    ·exact (zat h).symm
   ·simp only [hc,Bool.false_eq_true,if_false,zas,hx] at h;refine .inl ?_;simp only [zas,hx];exact h
  | false =>
   have h':(r.map fun (n,k)=>if (k == NameKind.free && env.scope.kind == .function && env.kindOf n == some .cell) then (n,NameKind.cell) else (n,k)).lookup x=some k:=by
    rcases Bool.eq_false_or_eq_true (k0 == NameKind.free && env.scope.kind == .function && env.kindOf n == some .cell) with hc | hc
    ·simp only [hc,if_true,zas,hx] at h;exact h
    ·simp only [hc,Bool.false_eq_true,if_false,zas,hx] at h;exact h
   simp only [zas,hx];exact fT h'
def i6 {env:Env}:∀ {names:List (Str × NameKind)} {x:Str},names.lookup x=some .free ->
  (names.map fun (n,k)=>if (k == NameKind.free && env.scope.kind == .function && env.kindOf n == some .cell) then (n,NameKind.cell) else (n,k)).lookup x=some .cell \/
  (names.map fun (n,k)=>if (k == NameKind.free && env.scope.kind == .function && env.kindOf n == some .cell) then (n,NameKind.cell) else (n,k)).lookup x=some .free
 | [],_,h=>by simp at h
 | (n,k0) :: r,x,h=>by
  rw [zar];cases hx:x == n with
  | true =>
   simp only [zas,hx] at h;rcases Bool.eq_false_or_eq_true (k0 == NameKind.free && env.scope.kind == .function && env.kindOf n == some .cell) with hc | hc
   ·refine .inl ?_;simp only [hc,if_true,zas,hx]
   ·refine .inr ?_;simp only [hc,Bool.false_eq_true,if_false,zas,hx];exact h
  | false =>
   simp only [zas,hx] at h;have ih:=i6 (env:=env) h;rcases Bool.eq_false_or_eq_true (k0 == NameKind.free && env.scope.kind == .function && env.kindOf n == some .cell) with hc | hc
   ·simp only [hc,if_true,zas,hx];exact ih
   ·simp only [hc,Bool.false_eq_true,if_false,zas,hx];exact ih
def cj (js:List (Option Nat)) (σ:St):St:=js.map fun j=>match j with
 | some j=>(σ[j]?).join
 | none=>none
def PTs (X:Cx) (ifs:List Expr) (tt:TT):Prop :=
 ∀ (pins:List (Addr × Obj)) (s:Shared) (σ:St) (H:Hp) (Q:Bool->Hp->Prop),Inv X pins σ H s->tt σ H Q ->
  wpAny (model X.prog X.w) X.A (forIn ifs true fun c r=>if r=true then do let ok <- isTrue c X.env (eval c X.env); pure (ForInStep.yield ok) else pure (ForInStep.yield r)) (TP X pins σ Q) X.xe s
def Dv:TT:=fun _ H Q=>Q true H
def pts_nil {X:Cx}:PTs X [] Dv:=fun _ _ _ H _ I h=>wpAny_tests_nil ⟨H,I,h⟩
def wW {X:Cx} {c:Expr} {tc:TT} (hc:PT X c tc):PTs X [c] tc:=fun pins s σ H Q I h=>wpAny_tests_one (hc pins s σ H Q I h)
def Bg (g:TG) (tt:TT) (te:TE) (D:Addr) (x:V) (τ:St) (H:Hp) (N:St->Hp->Prop):Prop :=
 g x τ H fun τ4 H4=>tt τ4 H4 fun b H5=>if b=true then te τ4 H5 fun v H6=>∃ xs,H6 D=some (.lst xs)/\xs.length < sizeLine/\N τ4 (upd H6 D (.lst (xs++[v]))) else N τ4 H5
def wz (J:It) (g:TG) (tt:TT) (te:TE) (σ0:St) (H1:Hp) (D:Addr) (Q:VK):Prop :=
 ∃ W:Nat->Nat->St->Hp->Prop,(∃ m,W 0 m σ0 (upd H1 D (.lst []))) /\
  ∀ i m τ H2,W i m τ H2->(J.stop i H2/\Q (.ref D) H2)\/(J.go i H2/\∃ N:St->Hp->Prop,(∀ τ' H',N τ' H'->∃ m',m' < m/\W (i+1) m' τ' H')/\∀ x H3,J.yld i H2 x H3->Bg g tt te D x τ H3 N)
def tLC (wi:TI) (g:TG) (tt:TT) (te:TE) (js:List (Option Nat)):TE:=fun σ H Q =>
 wi σ H fun J H1=>∀ D,H1 D=none->wz J g tt te (cj js σ) H1 D Q
def thF {α:Type} {t:Sem α} {Q Q':α->Shared->Prop} {M:Model} {A:Around} {E:Value->Shared->Prop} {s:Shared} (h:wpAny M A t Q (fun _ _=>False) s) (hQ:∀ a s,Q a s->Q' a s):wpAny M A t Q' E s :=
 wpAny_mono h hQ fun _ _ x=>x.elim
section
variable {X:Cx} {elt tg iter:Expr} {ifs:List Expr} {scope:Scope} {pos:Pos} {ns:List Str} {js:List (Option Nat)} {wi:TI} {g:TG} {tt:TT} {te:TE}
end
section
variable {X:Cx}
def qN:CallR X (.builtin "isinstance") (fun xs H Q=>∃ x t n b,xs=[x,.ty n]/\TyOf X.K H x t/\PySem.W.kitOne X.K t (.type n)=some b/\Q (.bl b) H):=by
 intro pins s σ H xs us Q I r h;obtain ⟨x,t,n,b,rfl,ty,e,q⟩:=h;obtain ⟨u,w',rfl,r1,r2⟩:=wd r;cases r2;exact oF I r1 ty e fun tk=>⟨.bl b,H,I.tok _,rfl,q⟩
end
section
open PySem.SeqAt
variable {X:Cx} {pins:List (Addr × Obj)} {σ:St} {H:Hp} {s:Shared}
end
section
variable {X:Cx}
def Inv.turnedLaid {pins:List (Addr × Obj)} {σ:St} {H:Hp} {s:Shared} {h':Heap} {t':Nat} {fp:List Addr} {p:Addr} {o:HO} (I:Inv X pins σ H s) (f:∀ b∈fp,eQ X pins H b) (hp:s.heap.objs.size<=p)
  (k:∀ b ob,b ∉ fp->s.heap.get? b=some ob->h'.get? b=some ob) (th:∀ b∈fp,∃ ob,h'.get? b=some ob) (new:ObjOk X.prog X.w (upd H p o) h' p o):Inv X pins σ (upd H p o) { s with heap:=h',toks:=t' }:=by
 have hn:H p=none:=I.hok.fresh hp;have ne:∀ b ob,s.heap.get? b=some ob->b≠p:=fun b ob e=>zaw (zag (zal e) hp);have nf:∀ b u,H b=some u->b ∉ fp:=fun b u e z=>by rw [(f b z).1] at e; cases e
 refine I.step (g':=s.gens) (d':=s.drawn) (ch:=fp) (fun b hb=>⟨(f b hb).2.2.2.1,(f b hb).2.1,(f b hb).2.2.2.2.1,(f b hb).2.2.2.2.2⟩) (fun b ob _ _ hc e _=>k b ob hc e) (fun b ob _ _ hc e _=>⟨ob.slots,k b ob hc e⟩)
  (fun b ob _ e n=>by rw [aC (ne b ob e)]; exact n) (fun b ob hc e=>⟨ob,k b ob hc e⟩) (fun b xs e=>by rw [aC (a9 e hn)]; exact e) (fun b ob u e=>by rw [aC (a9 e hn)]; exact e)
  (fun b ps e=>⟨#[],by rw [aC (a9 e hn),e]; simp⟩) (fun m hm=>?_) (fun b u e=>?_) I.bare
 ·obtain ⟨ob,es,ep,ho,r⟩:=hm;exact ⟨ob,es,ep,k _ ob (fun z=>(f _ z).2.1 rfl) ho,r⟩
 ·by_cases hb:b=p
  ·subst hb;rw [aF] at e;cases e;exact new
  ·rw [aC hb] at e;refine (I.hok b u e).stay (fun c v hc q=>k c v ?_ q) (fun c q=>by rw [aC (a9 q hn)]; exact q) fun c xs q=>by rw [aC (a9 q hn)]; exact q
   rcases hc with z | z
   ·rw [z]; exact nf b u e
   ·exact nf c _ z
def Ite (K:PySem.W.Frag) (a:Addr):It :=
 ⟨fun i H=>∃ xs x,SqL K H a xs/\xs[i]?=some x,
  fun i H y H'=>∃ p x,y=.ref p/\H p=none/\H'=upd H p (.tup [.int i,x])/\∀ xs,SqL K H a xs->xs[i]?=some x,
  fun i H=>∃ xs,SqL K H a xs/\xs.length<=i⟩
def nN {P:Program} {w:World} {K:PySem.W.Frag} {elts:List Expr} {k:Nat} {tp:Pos} (a e it:Addr) (hei:e≠it) :
  Turn P w K (.Tuple elts k tp) (Ite K a) [e,it] e (fun i h=>(∃ old,IsEnum h e it i old)/\h.IsListIter it a i) where
 mem:=by simp
 obj:=fun i h st b hb=>by
  obtain ⟨⟨old,he⟩,o,ho,hc,hd⟩:=st;have hb':b=e\/b=it:=by simpa using hb
  rcases hb' with rfl | rfl
  ·exact ⟨_,he,fun v z=>by
    have z':Data.fields _=Data.cell v:=z;cases z'⟩
  ·exact ⟨o,ho,fun v z=>by rw [hd] at z; cases z⟩
 keep:=fun i h h' st kp=>⟨let ⟨old,he⟩:=st.1; ⟨old,kp e (by simp) _ he⟩,st.2.at fun o q=>kp it (by simp) o q⟩
 item:=by
  intro X hP hw hK hc i pins s σ H E I hf st hg;subst hP hw hK;obtain ⟨xs,x,hq,hx⟩:=hg;obtain ⟨its,rv,p,hz⟩:=I.list hq;obtain ⟨u,hu,ru⟩:=rv.get hx;obtain ⟨⟨old,he⟩,hit⟩:=st;refine wpAny_pyNext_enum_item he hit p.isList (x:=u) (by simpa using hu) hei fun h1 ho1 hit1 ht1 hz1 hk1=>?_;refine ⟨_,rfl,wpAny_letOwnedTupleGo_enum ho1 fun h2 he2 hs2=>?_⟩;have eL:e < s.heap.objs.size:=zal he;have ht2:h2.get? s.heap.objs.size=some { cls:=.type "tuple",data:=.seq #[.int i s.toks,u] }:=(hs2.2 _ (Nat.ne_of_gt eL)).trans ht1;have hit2:h2.IsListIter it a (i+1):=hit1.extBut hs2.extBut hei.symm;have I2:Inv X pins σ (upd H s.heap.objs.size (.tup [.int i,x])) { s with heap:=h2,toks:=s.toks+1 }:=by
   refine I.turnedLaid (fp:=[e,it]) hf (zav _) (fun b ob hb q=>?_) (fun b hb=>?_) ?_
   ·have h1:b≠e:=fun z=>hb (by simp [z]);have h2':b≠it:=fun z=>hb (by simp [z]);exact (hs2.2 b h1).trans (hk1 b ob h1 h2' q)
   ·have hb':b=e\/b=it:=by simpa using hb
    rcases hb' with rfl | rfl
    ·exact ⟨_,he2⟩
    ·obtain ⟨o,ho,_⟩:=hit2;exact ⟨o,ho⟩
   ·refine ⟨(by show 2<=sizeLine; decide),[.int i s.toks,u],.cons ⟨_,rfl⟩ (.cons ru .nil),?_⟩;exact ⟨_,ht2,rfl,_,rfl,rfl⟩
  have fr:∀ b∈[e,it],upd H s.heap.objs.size (.tup [.int i,x]) b=none:=fun b hb=>by
   have hlt:b < s.heap.objs.size:=by
    have hb':b=e\/b=it:=by simpa using hb
    rcases hb' with rfl | rfl
    ·exact eL
    ·obtain ⟨o,ho,_⟩:=hit;exact zal ho
   rw [aC (zaw hlt)];exact (hf b hb).1
  exact ⟨.ref s.heap.objs.size,_,I2,rfl,⟨_,x,rfl,I.fresh,rfl,fun ys hy=>by rw [I.list_inj hy hq]; exact hx⟩,⟨⟨_,he2⟩,hit2⟩,fr⟩
 done:=by
  intro X hP hw hK hc i pins s σ H E I hf st hg;subst hP hw hK;obtain ⟨xs,hq,hx⟩:=hg;obtain ⟨its,rv,p,hz⟩:=I.list hq;obtain ⟨⟨old,he⟩,hit⟩:=st;obtain ⟨f0,f1,f2,f3,f4,f5⟩:=hf it (by simp);have hl:=rv.length;exact wpAny_pyNext_enum_end (I.ok.hd hc) he hit p.isList (by simp; omega) fun h' eb=>⟨rfl,I.turned (t':=s.toks) (fun b o hb q=>eb b o hb q) f0 f1 f3 f4 f5⟩
 self:=fun _ _ _ _ _ st h=>let ⟨⟨_,he⟩,_⟩:=st; wpAny_pyIter_enum he h
end
def Kn (P:Program) (w:World) (K:PySem.W.Frag) (mg:Str->Option Value) (base:Heap) (k:Nat) (x:Str) (ps:List Str) (sp:Sp):Prop :=
 ∃ f fd,FnOk P w K mg base CX0 k f fd ps sp/\mg x=some (.ref f)/\PySem.W.keepIn K (.ref f)=true/\Binds K fd ps []
def Kn.mono {P:Program} {w:World} {K:PySem.W.Frag} {mg:Str->Option Value} {base:Heap} {j k:Nat} {x:Str} {ps:List Str} {sp:Sp} (G:Kn P w K mg base j x ps sp) (h:j<=k):Kn P w K mg base k x ps sp :=
 let ⟨f,fd,a,b,c,d⟩:=G
 ⟨f,fd,a.mono h,b,c,d⟩
section
variable {X:Cx} {k:Nat} {x:Str} {ps:List Str} {sp:Sp} {p pos:Pos} {e:Expr} {es:List Expr} {t:TA}
def wt (G:Kn X.prog X.w X.K X.mg X.base k x ps sp) (hr:Room k X.A) (hg:Gl X x) (ha:PA X (e :: es) t) (hdb:(x == ("__debug__" : Str))=false:=by decide)
  (he:starEach (e :: es) X.env=(false,eval e X.env) :: starEach es X.env:=by rfl) (hpl:(backTo pos (starEach es X.env)).any (·.1)=false:=by rfl) :
  PE X (.Call (.Name x p) (e :: es) [] pos) (mX sp [] E0 t):=by
 obtain ⟨f,fd,F,hm,hk,hb⟩:=G;exact xc F hr hg hm hk hb .nil CJ ha hdb he hpl
end
def Dx (K:PySem.W.Frag):List V->Hp->VK->Prop:=fun xs H Q=>∃ x n,xs=[x]/\Ct K x H n/\Q (.int n) H
def wT (K:PySem.W.Frag):List V->Hp->VK->Prop:=fun xs H Q=>∃ p ys,xs=[.ref p]/\(SqL K H p ys\/SqT K H p ys)/\∀ l,H l=none->Q (.ref l) (upd H l (.lst ys))
section
variable {X:Cx} {K:PySem.W.Frag}
def DB (hK:X.K=K):CallR X (.builtin "len") (Dx K):=by subst hK; exact qM
def xo (hK:X.K=K):CallR X (.type "list") (wT K):=by subst hK; exact lE
def DC (hK:X.K=K):IxR X (m3 K):=by subst hK; exact ix_list
def DA (hK:X.K=K):SlR X (AF K):=by subst hK; exact wQ
variable {tg l:Expr} {tl:TE} {es:List Expr} {t:TGs} {n k:Nat} {pos p p2 cpos apos:Pos}
end
def sgn (c:Nat):V:=.str ⟨#[c]⟩
def Its (z:Str):It:=⟨fun i _=>i < z.cps.size,fun i H x H'=>H'=H/\∃ c,z.cps[i]?=some c/\x=sgn c,fun i _=>z.cps.size<=i⟩
def pI {P:Program} {w:World} {K:PySem.W.Frag} {tg:Expr} (it:Addr) (z:Str) (t:Tok) (ty:String) (hty:ty="str_ascii_iterator"\/ty="str_iterator") :
  Turn P w K tg (Its z) [it] it (fun i h=>h.IsStrIter it ty z t i) where
 mem:=by simp
 obj:=fun i h st b hb=>by
  have e:b=it:=by simpa using hb
  subst e;obtain ⟨o,e,c,d⟩:=st;exact ⟨o,e,fun v q=>by rw [d] at q; cases q⟩
 keep:=fun i h h' st k=>let ⟨o,e,r⟩:=st; ⟨o,k it (by simp) o e,r⟩
 item:=by
  intro X hP hw hK hc i pins s σ H E I hf st hg;subst hP hw hK;obtain ⟨f0,f1,f2,f3,f4,f5⟩:=hf it (by simp);have W:Walks X.prog X.w X.A it [it] [it] z.cps.size (SignAt z) (fun i h=>h.IsStrIter it ty z t i):=by
   rcases hty with rfl | rfl
   ·exact Walks.strAscii (I.ok.hd hc) it z t
   ·exact Walks.strWide (I.ok.hd hc) it z t
  refine W.item i s _ _ hg st fun v h' tk hv st' kk=>?_;obtain ⟨c,u,hcv,rfl⟩:=hv;have I1:Inv X pins σ H { s with heap:=h',toks:=tk }:=I.turned (fun b o hb e=>kk b o (by simpa using hb) e) f0 f1 f3 f4 f5;obtain ⟨o,e,ec,ed⟩:=id st';refine ⟨_,rfl,kA (s:={ s with heap:=h',toks:=tk }) (n:=ty) e ec ed (by rcases hty with rfl | rfl <;> decide) ⟨sgn c,H,I1,⟨u,rfl⟩,⟨rfl,c,hcv,rfl⟩,st',fun b hb=>(hf b hb).1⟩⟩
 done:=by
  intro X hP hw hK hc i pins s σ H E I hf st hg;subst hP hw hK;obtain ⟨f0,f1,f2,f3,f4,f5⟩:=hf it (by simp);have hle:z.cps.size<=i:=hg;rcases hty with rfl | rfl
  ·exact wpAny_pyNext_ascii_end (I.ok.hd hc) st (by simpa using hle) fun h' he=>⟨rfl,I.turned (t':=s.toks) (fun b o hb e=>he b o hb e) f0 f1 f3 f4 f5⟩
  ·exact wpAny_pyNext_wide_end (I.ok.hd hc) st (by simpa using hle) fun h' he=>⟨rfl,I.turned (t':=s.toks) (fun b o hb e=>he b o hb e) f0 f1 f3 f4 f5⟩
 self:=fun A i s Q E st h=>by
  rcases hty with rfl | rfl
  ·exact wpAny_pyIter_striter_ascii st h
  ·exact wpAny_pyIter_striter_wide st h
section
variable {X:Cx} {tg:Expr} {K:PySem.W.Frag}
def bX (z:Str):List V:=z.cps.toList.map sgn
def b8:∀ {xs:List V} {us:List Value},xs.length=us.length->(∀ (i:Nat) x u,xs[i]?=some x->us[i]?=some u->RelV x u)->Vals xs us
 | [],[],_,_=>.nil
 | [],_ :: _,h,_=>by cases h
 | _ :: _,[],h,_=>by cases h
 | x :: xs,u :: us,h,f=>.cons (f 0 x u rfl rfl) (b8 (Nat.succ.inj h) fun i y v a b=>f (i+1) y v (by simpa using a) (by simpa using b))
def jT (hc:X.calm=true):CallR X (.type "list") (fun xs H Q=>∃ z,xs=[.str z]/\z.cps.size<=sizeLine/\∀ l,H l=none->Q (.ref l) (upd H l (.lst (bX z)))):=by
 intro pins s σ H xs us Q I r h;obtain ⟨z,rfl,hz,q⟩:=h;obtain ⟨u,rfl,t,rfl⟩:=eT r;refine call_list_str (I.ok.hd hc) z t (fun h' tk acc c' hk ho hi=>?_) hz;have hl:(bX z).length=acc.toList.length:=by
  unfold bX;rw [zad,zaW,zaW,hi.1]
 have rv:Vals (bX z) acc.toList:=b8 hl fun i x v a b=>by
  obtain ⟨c,tk',hcv,rfl⟩:=hi.2 i v (by simpa using b);unfold bX at a;rw [zao] at a;have e:z.cps.toList[i]?=some c:=by simpa using hcv
  rw [e] at a;cases a;exact ⟨_,rfl⟩
 refine ⟨.ref s.heap.objs.size,_,I.laid (t':=tk) (o:=.lst (bX z)) hk (zav _) ⟨?_,acc.toList,c',rv,by simpa using ho⟩,rfl,q _ I.fresh⟩;unfold bX;rw [zad,zaW];exact hz
def DH (xs:List Nat) (lo hi:Option Int):List Nat:=(xs.drop (HT.sIx xs.length 0 lo)).take (HT.sIx xs.length xs.length hi - HT.sIx xs.length 0 lo)
end
section
variable {l l':List Addr} {H H':Hp} {a b:Addr} {o:HO}
end
section
variable {K:PySem.W.Frag}
end
section
variable {X:Cx} {tg:Expr} {K:PySem.W.Frag}
end
section
variable {prog:Program} {w:World} {A:Around} {E:Value->Shared->Prop} {s:Shared}
end
section
variable {X:Cx} {tg:Expr} {K:PySem.W.Frag}
end
abbrev li (z:Str):List Nat:=z.cps.toList
def mk1 (c:Nat):Str:=⟨#[c]⟩
def Sub (x z:List Nat):Prop:=∀ c∈x,c∈z
section
variable {prog:Program} {w:World} {A:Around} {E:Value->Shared->Prop} {s:Shared}
end
section
variable {X:Cx} {K:PySem.W.Frag}
def oH (z y:Str):Bool:=!(Builtin.Str.occurrences z y 0 z.length 1).isEmpty
end
section
open PySem.SeqAt
end
def cg:∀ (names:List (Str × NameKind)) (n:Nat) (acc:List (Str × Addr)),cellsFrom n names acc=cellsFrom n names []++acc
 | [],_,_=>rfl
 | (x,k) :: r,n,acc=>by
  unfold cellsFrom;split
  ·rw [cg r (n+1) ((x,n) :: acc),cg r (n+1) [(x,n)],zaD];rfl
  ·exact cg r n acc
def dE:∀ (names:List (Str × NameKind)) (n:Nat) (acc:List (Str × Addr)) {x:Str} {c:Addr},(x,c)∈cellsFrom n names acc->(x,c)∈acc\/(x,NameKind.cell)∈names
 | [],_,_,_,_,h=>.inl h
 | (y,k) :: r,n,acc,x,c,h=>by
  unfold cellsFrom at h;split at h
  ·rename_i hk;rcases dE r _ _ h with h | h
   ·rcases zay.mp h with e | e
    ·have hk':k=.cell:=by simpa using hk
     have e':=(Prod.mk.inj e).1;rw [e',<- hk'];exact .inr zaq
    ·exact .inl e
   ·exact .inr (zaj _ h)
  ·rcases dE r _ _ h with h | h
   ·exact .inl h
   ·exact .inr (zaj _ h)
def db:∀ (names:List (Str × NameKind)) (n:Nat) (acc:List (Str × Addr)) {p:Str × Addr},p∈acc->p∈cellsFrom n names acc
 | [],_,_,_,h=>h
 | (y,k) :: r,n,acc,p,h=>by
  unfold cellsFrom;split
  ·exact db r _ _ (zaj _ h)
  ·exact db r _ _ h
def dF:∀ (names:List (Str × NameKind)) (n:Nat) (acc:List (Str × Addr)) {x:Str},(x,NameKind.cell)∈names->∃ c,(x,c)∈cellsFrom n names acc
 | [],_,_,_,h=>by simp at h
 | (y,k) :: r,n,acc,x,h=>by
  unfold cellsFrom;rcases zay.mp h with e | e
  ·cases e;rw [if_pos (by rfl)];exact ⟨n,db r _ _ zaq⟩
  ·split
   ·exact dF r _ _ e
   ·exact dF r _ _ e
def k5 {α:Type}:∀ {a b:List (Str × α)} {x:Str} {c:α},(a++b).lookup x=some c->a.lookup x=some c\/(a.lookup x=none/\b.lookup x=some c)
 | [],_,_,_,h=>.inr ⟨rfl,h⟩
 | (n,v) :: r,b,x,c,h=>by
  rw [List.cons_append,zas] at h;rw [zas];cases e:x == n with
  | true=>rw [e] at h; exact .inl h
  | false=>rw [e] at h; exact k5 h
def gQ {α:Type}:∀ {a b:List (Str × α)} {x:Str} {c:α},a.lookup x=some c->(a++b).lookup x=some c
 | [],_,_,_,h=>by simp at h
 | (n,v) :: r,b,x,c,h=>by
  rw [List.cons_append,zas];rw [zas] at h;cases e:x == n with
  | true=>rw [e] at h; exact h
  | false=>rw [e] at h; exact gQ h
def fW {α:Type}:∀ {a b:List (Str × α)} {x:Str} {c:α},a.lookup x=none->b.lookup x=some c->(a++b).lookup x=some c
 | [],_,_,_,_,h=>h
 | (n,v) :: r,b,x,c,hn,h=>by
  rw [List.cons_append,zas];rw [zas] at hn;cases e:x == n with
  | true=>rw [e] at hn; cases hn
  | false=>rw [e] at hn; exact fW hn h
abbrev aH (X:Cx) (scope:Scope) (ns:List Str) (C:Addr) (cl:List (Str × Addr)) (s₀:Shared) (H₀:Hp) (fp:List Addr):Cx :=
 { X with N:=ns,s₀:=s₀,H₀:=H₀,env:=compEnvC scope cl C X.env,outer:=X.stack,ex:=fp,fn:=fun x=>scope.names.lookup x == some NameKind.cell,pn:=[],xe:=fun _ _=>False }
structure BlkOkC (X:Cx) (scope:Scope) (ns:List Str) (js:List (Option Nat)):Prop where
 kind:scope.kind=.function
 uniq:∀ y∈scope.names,y.2=.cell->scope.names.lookup y.1=some .cell
 names:∀ y∈scope.names,y.2=.local->scope.names.lookup y.1=some .local
 free:∀ y∈scope.names,y.2=.free->X.env.kindOf y.1=some .cell\/X.env.kindOf y.1=some .free
 nd:ns.Nodup
 len:js.length=ns.length
 out:∀ (i:Nat) (x:Str) (j:Nat),ns[i]?=some x->js[i]?=some (some j)->X.N[j]?=some x/\scope.names.lookup x=some .free
def mN (N:List Str) (sc scope:Scope) (ns:List Str) (js:List (Option Nat)):Bool :=
 decide (scope.kind=.function) && scope.names.all (fun y=>decide (y.2=.cell->scope.names.lookup y.1=some .cell)) && scope.names.all (fun y=>decide (y.2=.local->scope.names.lookup y.1=some .local)) &&
 scope.names.all (fun y=>decide (y.2=.free->sc.names.lookup y.1=some .cell\/sc.names.lookup y.1=some .free)) && decide ns.Nodup && decide (js.length=ns.length) &&
 (List.range ns.length).all (fun i=>match js[i]?,ns[i]? with
  | some (some j),some x=>decide (N[j]?=some x) && decide (scope.names.lookup x=some .free)
  | _,_=>true)
def yo {N:List Str} {scope:Scope} {ns:List Str} {js:List (Option Nat)} (h7:∀ i < ns.length,(match js[i]?,ns[i]? with
  | some (some j),some x=>decide (N[j]?=some x) && decide (scope.names.lookup x=some .free)
  | _,_=>true)=true) {i:Nat} {x:Str} {j:Nat} (e1:ns[i]?=some x) (e2:js[i]?=some (some j)):N[j]?=some x/\scope.names.lookup x=some .free:=by
 have q:=h7 i (zah.mp e1).1;rw [e1,e2] at q;simpa using q
def BlkOkC.of {X:Cx} {scope:Scope} {ns:List Str} {js:List (Option Nat)} {N0:List Str} {sc0:Scope} (hN:X.N=N0) (hS:X.env.scope=sc0) (h:mN N0 sc0 scope ns js=true):BlkOkC X scope ns js:=by
 unfold mN at h;simp only [Bool.and_eq_true,List.all_eq_true,decide_eq_true_eq,List.mem_range] at h;obtain ⟨⟨⟨⟨⟨⟨h1,h2⟩,h3⟩,h4⟩,h5⟩,h6⟩,h7⟩:=h;refine ⟨h1,fun y hy=>h2 y hy,fun y hy=>h3 y hy,fun y hy hk=>?_,h5,h6,fun i x j e1 e2=>?_⟩
 ·have q:=h4 y hy hk;rw [<- hS] at q;exact q
 ·rw [hN];exact yo h7 e1 e2
section
variable {M:Model} {A:Around} {E:Value->Shared->Prop} {s:Shared}
def eS {scope:Scope} {globals:Addr} {closure:List (Str × Addr)} {qual:Str} {outer:Env} {builtins:Addr} {Q:Env->Shared->Prop}
  (hQ:Q (newEnv scope s.heap.objs.size globals (cellsFrom (s.heap.objs.size+1) scope.names closure) qual none .none (some outer) builtins) { s with heap:=pushCells (s.heap.push { cls:=.type "dict",data:=.dict #[] }) scope.names }) :
  wpAny M A (newFunctionEnv scope globals closure [] qual none .none (some outer) builtins) Q E s:=by
 simp only [newFunctionEnv,Option.isSome_some,if_true];refine zam (wpAny_alloc ?_);refine zam (wpAny_layCells _ (fun name kind cells=>by cases hkc:kind == NameKind.cell <;> simp [hkc]) _ _ _ _ ?_);rw [show ({ s with heap:=s.heap.push { cls:=.type "dict",data:=.dict #[] } }:Shared).heap.objs.size=s.heap.objs.size+1 from Heap.size_push ..];rw [List.forIn_nil];exact zam (zaR (zaR hQ))
end
section
variable {X:Cx} {elt tg iter:Expr} {ifs:List Expr} {scope:Scope} {pos:Pos} {ns:List Str} {js:List (Option Nat)} {wi:TI} {g:TG} {tt:TT} {te:TE}
def qO {pins:List (Addr × Obj)} {s3:Shared} {σ:St} {H3:Hp} {fp:List Addr} {h₁:Heap} {tk:Nat} (B:BlkOkC X scope ns js) (I3:Inv X pins σ H3 s3)
  (f3:∀ b∈fp,eQ X pins H3 b) (lt3:∀ b∈fp,b < s3.heap.objs.size) (hns:h₁.Ns s3.heap.objs.size (fun _=>none)) (old:∀ b u,s3.heap.get? b=some u->h₁.get? b=some u)
  (cok:CellsOk h₁ (s3.heap.objs.size+1) (cellsFrom (s3.heap.objs.size+1) scope.names [])) :
  Inv (aH X scope ns s3.heap.objs.size (cellsFrom (s3.heap.objs.size+1) scope.names (bU X.env scope.names)) s3 H3 fp) [] (cj js σ) H3 { s3 with heap:=h₁,toks:=tk }:=by
 rw [cg];have hmem:∀ {x:Str} {c:Addr},(x,c)∈cellsFrom (s3.heap.objs.size+1) scope.names []->scope.names.lookup x=some .cell:=fun {x c} h=>by
  rcases dE _ _ _ h with h | h
  ·simp at h
  ·exact B.uniq _ h rfl
 have hhas:∀ {x:Str},scope.names.lookup x=some .cell->∃ c,(cellsFrom (s3.heap.objs.size+1) scope.names []).lookup x=some c:=fun {x} h=>by
  obtain ⟨c,hc⟩:=dF scope.names (s3.heap.objs.size+1) [] (zaS h);exact dA hc
 generalize cellsFrom (s3.heap.objs.size+1) scope.names []=CS at cok hmem hhas;have has:∀ y∈scope.names,y.2=.free->∃ c,X.env.cells.lookup y.1=some c:=fun y hy hk=>I3.ok.has y.1 (B.free y hy hk);have look:∀ {n:Str} {c:Addr},(CS++bU X.env scope.names).lookup n=some c->(CS.lookup n=some c/\h₁.IsCell c none/\s3.heap.objs.size+1<=c)\/(CS.lookup n=none/\X.env.cells.lookup n=some c/\c < s3.heap.objs.size):=fun {n c} e=>by
  rcases k5 e with e | ⟨e1,e2⟩
  ·exact .inl ⟨e,cok.empty n c (zaS e)⟩
  ·have e3:=kg has e2;obtain ⟨v,hv⟩:=I3.cell n c e3;exact .inr ⟨e1,e3,hv.lt⟩
 refine ⟨⟨I3.ok.mod,B.kind,I3.ok.glob,I3.ok.blt,zav _,fun y z c h1 h2=>?_,fun y hy=>?_,fun y c hf h=>?_,I3.ok.hd,I3.ok.frames,.inl rfl,fun b hb=>?_,I3.bs,zau I3.ok.bsz I3.sz,
   fun b o e hb=>?_,fun b hb z=>?_,I3.stack,I3.stkFree⟩,
  rfl,I3.bare,Un.kept old,⟨_,hns,fun i x v h1 h2 h3=>?_⟩,fun y c h=>?_,I3.fresh,fun y c h=>?_,fun p hp=>absurd (show p∈([]:List (Addr × Obj)) from hp) (by simp),I3.hok.kept old,?_⟩
 ·rcases look h1 with ⟨a1,_,a3⟩ | ⟨_,a2,a3⟩ <;> rcases look h2 with ⟨b1,_,b3⟩ | ⟨_,b2,b3⟩
  ·exact name_of_addr cok.apart (zaS a1) (zaS b1)
  ·exact absurd (zag (zag b3 (Nat.le_succ _)) a3) (zaH _)
  ·exact absurd (zag (zag a3 (Nat.le_succ _)) b3) (zaH _)
  ·exact I3.ok.inj y z c a2 b2
 ·have hf:scope.names.lookup y=some .cell\/scope.names.lookup y=some .free:=by
   rcases hy with hy | hy
   ·rcases fT (env:=X.env) hy with q | q
    ·exact .inl q
    ·exact .inr q.1
   ·rcases fT (env:=X.env) hy with q | q
    ·exact .inr q
    ·exact .inr q.1
  show ∃ c,(CS++bU X.env scope.names).lookup y=some c;rcases hf with hf | hf
  ·obtain ⟨c,hc⟩:=hhas hf;exact ⟨c,gQ hc⟩
  ·obtain ⟨c,hc⟩:=lB (env:=X.env) (zaS hf);cases e:CS.lookup y with
   | none=>exact ⟨c,fW e hc⟩
   | some d=>exact ⟨d,gQ e⟩
 ·rcases look h with ⟨_,_,a3⟩ | ⟨a1,_,_⟩
  ·show s3.heap.objs.size<=c;omega
  ·have hf':(scope.names.lookup y == some NameKind.cell)=true:=hf;obtain ⟨d,hd⟩:=hhas (by simpa using hf');rw [a1] at hd;cases hd
 ·refine ⟨zaw (lt3 b hb),fun x c e=>?_⟩;rcases look e with ⟨_,_,a3⟩ | ⟨_,a2,_⟩
  ·have:=lt3 b hb;intro z;subst z;exact zaH _ (zag (zag this (Nat.le_succ _)) a3)
  ·exact (f3 b hb).2.2.2.2.1 x c a2
 ·rcases (f3 b hb).2.2.2.1 with z | z
  ·exact I3.ok.noex b o e z
  ·exact absurd (zag (zag (zal e) I3.ok.bsz) z) (zaH _)
 ·rcases zay.mp (I3.stkSub b z) with q | q
  ·exact (f3 b hb).2.1 q
  ·exact (f3 b hb).2.2.1 q
 ·have h2':(js.map fun j=>match j with | some j=>(σ[j]?).join | none=>none)[i]?=some (some v):=h2;rw [zao] at h2';obtain ⟨j,hj,hσ⟩:∃ j,js[i]?=some (some j)/\σ[j]?=some (some v):=by
   cases e:js[i]? with
   | none=>rw [e] at h2'; simp at h2'
   | some oj =>
    rw [e] at h2';cases oj with
    | none=>simp at h2'
    | some j =>
     refine ⟨j,rfl,?_⟩;have q:(σ[j]?).join=some v:=by simpa using h2'
     cases e2:σ[j]? with
     | none=>rw [e2] at q; simp at q
     | some ov =>
      rw [e2] at q;simp at q;rw [q]
  obtain ⟨hN,hfr⟩:=B.out i x j h1 hj;have hf:=B.free (x,.free) (zaS hfr) rfl;have hf':X.env.kindOf x=some .cell\/X.env.kindOf x=some .free:=hf;obtain ⟨m,hn,hl⟩:=I3.loc;obtain ⟨u,r,l⟩:=hl j x v hN hσ (by
   rcases hf' with z | z
   ·exact .inr (.inl z)
   ·exact .inr (.inr z))
  refine ⟨u,r,?_⟩;rcases l with ⟨hk,_⟩ | ⟨hk,c,hc,hcell⟩
  ·rcases hf' with z | z
   ·rw [z] at hk; cases hk
   ·rw [z] at hk; cases hk
  ·obtain ⟨c',hc'⟩:=lB (env:=X.env) (zaS hfr);have e':=kg has hc';rw [hc] at e';cases e';obtain ⟨o,ho,hd⟩:=hcell;have hno:CS.lookup x=none:=by
    cases e:CS.lookup x with
    | none=>rfl
    | some d =>
     have q:=hmem (zaS e);rw [hfr] at q;cases q
   exact .inr ⟨i6 (env:=X.env) hfr,c,fW hno hc',⟨o,old c o ho,hd⟩⟩
 ·rcases look h with ⟨_,a2,_⟩ | ⟨_,a2,_⟩
  ·exact ⟨_,a2⟩
  ·obtain ⟨v,o,ho,hd⟩:=I3.cell y c a2;exact ⟨v,o,old c o ho,hd⟩
 ·rcases look h with ⟨_,_,a3⟩ | ⟨_,a2,_⟩
  ·exact I3.hok.fresh (by omega)
  ·exact I3.freeC y c a2
 ·show (js.map _).length=ns.length;rw [zad];exact B.len
def k8 {pins:List (Addr × Obj)} {s2:Shared} {σ:St} {H2:Hp} {Qv:VK} {J:It} {fp:List Addr} {it:Addr} {tn:Nat->Heap->Prop} {RR:Value->Addr->Result->Shared->Prop}
  (B:BlkOkC X scope ns js) (hc:X.calm=true) (I2:Inv X pins σ H2 s2) (T:Turn X.prog X.w X.K tg J fp it tn) (st2:tn 0 s2.heap) (f2:∀ b∈fp,eQ X pins H2 b)
  (hg:∀ C cl s₀ H₀ fp,PG (aH X scope ns C cl s₀ H₀ fp) tg g) (ht:∀ C cl s₀ H₀ fp,PTs (aH X scope ns C cl s₀ H₀ fp) ifs tt) (he:∀ C cl s₀ H₀ fp,PE (aH X scope ns C cl s₀ H₀ fp) elt te)
  (hw:∀ D,H2 D=none->wz J g tt te (cj js σ) H2 D Qv)
  (hRR:∀ D C s' H',Inv X pins σ H' s'->Qv (.ref D) H'->(∃ m,s'.heap.Ns C m)->H' C=none->C≠X.env.locals->X.s₀.heap.objs.size<=C->(∀ x c,X.env.cells.lookup x=some c->c≠C)->(∀ p∈X.pn++pins,p.1≠C)->RR (.ref D) C (.ok .next) s') :
  wpAny (model X.prog X.w) X.A (newList []) (fun acc s₃=>wpAny (model X.prog X.w) X.A (newFunctionEnv scope X.env.globals (bU X.env scope.names) [] X.env.qual none .none (some X.env)) (fun cenv s₄ =>
   codeAny (model X.prog X.w) X.A (.compStart (.ListComp elt [⟨tg,iter,ifs,0⟩] scope pos) 0 (.ref it) acc { cenv with scope:=relabel scope X.env }) (RR acc cenv.locals) s₄) X.xe s₃) X.xe s2:=by
 refine wpAny_newObj_type (eS ?_)
 dsimp only
 have I3:Inv X pins σ (upd H2 s2.heap.objs.size (.lst [])) { s2 with heap:=s2.heap.push { cls:=.type "list",data:=.seq ([]:List Value).toArray },toks:=s2.toks }:=I2.lnew .nil (Nat.zero_le _);generalize hs3:({ s2 with heap:=s2.heap.push { cls:=.type "list",data:=.seq ([]:List Value).toArray },toks:=s2.toks }:Shared)=s3 at I3;have e3:s3.heap=s2.heap.push { cls:=.type "list",data:=.seq ([]:List Value).toArray }:=by rw [<- hs3]
 have k3:∀ b u,s2.heap.get? b=some u->s3.heap.get? b=some u:=fun b u e=>by rw [e3]; exact zaf _ e
 have sz3:s3.heap.objs.size=s2.heap.objs.size+1:=by rw [e3,Heap.size_push]
 have hD:H2 s2.heap.objs.size=none:=I2.fresh;obtain ⟨h₁,hh₁⟩:∃ h₁,h₁=pushCells (s3.heap.push { cls:=.type "dict",data:=.dict #[] }) scope.names:=⟨_,rfl⟩;have old:∀ b u,s3.heap.get? b=some u->h₁.get? b=some u:=fun b u e=>by
  rw [hh₁];exact pushCells_keeps _ _ b u (zaf _ e)
 have hns:h₁.Ns s3.heap.objs.size (fun _=>none):=by
  rw [hh₁];exact (Heap.Ns.new s3.heap (.type "dict")).keeps (pushCells_keeps _ _)
 have cok:CellsOk h₁ (s3.heap.objs.size+1) (cellsFrom (s3.heap.objs.size+1) scope.names []):=by
  have q:=cellsFrom_ok scope.names (s3.heap.push { cls:=.type "dict",data:=.dict #[] }) (s3.heap.objs.size+1) [] ⟨fun _ _ hm=>(nomatch hm),List.Pairwise.nil⟩ (by rw [Heap.size_push]; exact zav _);rw [Heap.size_push,<- hh₁] at q;exact q
 have obj2:∀ b∈fp,b < s2.heap.objs.size:=fun b hb=>let ⟨o,e,_⟩:=T.obj 0 _ st2 b hb; zal e;have f3:∀ b∈fp,eQ X pins (upd H2 s2.heap.objs.size (.lst [])) b:=fun b hb=>⟨by rw [aC (zaw (obj2 b hb))]; exact (f2 b hb).1,(f2 b hb).2⟩;have lt3:∀ b∈fp,b < s3.heap.objs.size:=fun b hb=>by rw [sz3]; exact Nat.lt_succ_of_lt (obj2 b hb)
 obtain ⟨W,⟨m0,w0⟩,turn⟩:=hw _ hD;have J0:=fun tk=>qO (tk:=tk) B I3 f3 lt3 hns old cok;have has:∀ y∈scope.names,y.2=.free->∃ c,X.env.cells.lookup y.1=some c:=fun y hy hk=>I2.ok.has y.1 (B.free y hy hk);have stat:∀ {H':Hp},(∀ b∈fp,H' b=none)->∀ b∈fp,eQ (aH X scope ns s3.heap.objs.size (cellsFrom (s3.heap.objs.size+1) scope.names (bU X.env scope.names)) s3 (upd H2 s2.heap.objs.size (.lst [])) fp) [] H' b:=fun hn b hb =>
  ⟨hn b hb,zaw (lt3 b hb),(J0 0).ok.exfs b hb,.inl hb,fun x c e=>(J0 0).ok.exf b hb |>.2 x c e,fun p hp=>absurd (show p∈([]:List (Addr × Obj)) from hp) (by simp)⟩
 have fin:∀ {τ:St} {H':Hp} {s':Shared},Inv (aH X scope ns s3.heap.objs.size (cellsFrom (s3.heap.objs.size+1) scope.names (bU X.env scope.names)) s3 (upd H2 s2.heap.objs.size (.lst [])) fp) [] τ H' s'->Qv (.ref s2.heap.objs.size) H'->RR (.ref s2.heap.objs.size) s3.heap.objs.size (.ok .next) s':=fun {τ H' s'} I6 q=>by
  have u1:Un (frs X.stack) fp H2 (upd H2 s2.heap.objs.size (.lst [])) s2.heap s3.heap:=Un.laid k3 (zav _) hD;have os3:s3.os=s2.os:=by rw [<- hs3]
  have I7:Inv X pins σ H' s':=I2.call' (ch:=fp) (I6.os.trans os3) (u1.trans I6.base) I6.hok I6.bare fun b hb=>⟨(f2 b hb).2.2.2.1,(f2 b hb).2.1,(f2 b hb).2.2.2.2.1,(f2 b hb).2.2.2.2.2⟩;have le2:s2.heap.objs.size<=s3.heap.objs.size:=by rw [sz3]; exact Nat.le_succ _
  refine hRR _ _ s' H' I7 q ?_ I6.free (Nat.ne_of_gt (zag I2.lt le2)) (zau I2.sz le2) (fun x c e z=>?_) fun p hp z=>?_
  ·obtain ⟨m,hn,_⟩:=I6.loc;exact ⟨m,hn⟩
  ·obtain ⟨v,hv⟩:=I2.cell x c e;exact absurd (zag hv.lt (by rw [z]; exact le2)) (zaH _)
  ·exact absurd (zag (zal (I2.pin p hp).1) (by rw [z]; exact le2)) (zaH _)
 rw [<- e3,<- hh₁];have loop:∀ tk,codeAny (model X.prog X.w) X.A (.compLoop (.ListComp elt [⟨tg,iter,ifs,0⟩] scope pos) 0 (.ref it) (.ref s2.heap.objs.size) (compEnvC scope (cellsFrom (s3.heap.objs.size+1) scope.names (bU X.env scope.names)) s3.heap.objs.size X.env))
   (RR (.ref s2.heap.objs.size) s3.heap.objs.size) { s3 with heap:=h₁,toks:=tk }:=fun tk=>by
  refine codeAny_loop rfl (fun n s'=>∃ i τ H',Inv (aH X scope ns s3.heap.objs.size (cellsFrom (s3.heap.objs.size+1) scope.names (bU X.env scope.names)) s3 (upd H2 s2.heap.objs.size (.lst [])) fp) [] τ H' s'/\tn i s'.heap/\(∀ b∈fp,H' b=none)/\W i n τ H') (fun n s5 hI=>?_) m0
   ⟨0,_,_,J0 tk,T.keep _ _ _ st2 fun b _ o e=>old b o (k3 b o e),fun b hb=>(f3 b hb).1,w0⟩
  obtain ⟨i,τ,H5,I5,st5,fr5,w5⟩:=hI;show wpAny _ X.A ((compTurn (.ListComp elt [⟨tg,iter,ifs,0⟩] scope pos) 0 (.ref it) (.ref s2.heap.objs.size) (compEnvC scope (cellsFrom (s3.heap.objs.size+1) scope.names (bU X.env scope.names)) s3.heap.objs.size X.env)).onRaise (fun x=>do noteFrame x (compEnvC scope (cellsFrom (s3.heap.objs.size+1) scope.names (bU X.env scope.names)) s3.heap.objs.size X.env); theTreesLotGoes x)) _ _ s5;refine wpAny_noted ?_;rw [compTurn_list];refine zam (wpAny_standAt (zam ?_));rcases turn i n τ H5 w5 with ⟨stop,qn⟩ | ⟨go,N,hN,step⟩
  ·refine thn (T.done (aH X scope ns s3.heap.objs.size (cellsFrom (s3.heap.objs.size+1) scope.names (bU X.env scope.names)) s3 (upd H2 s2.heap.objs.size (.lst [])) fp) rfl rfl rfl hc i [] s5 τ H5 _ I5 (stat fr5) st5 stop) fun r s6 ⟨hr,I6⟩=>?_;subst hr;exact zaR (fin I6 qn)
  ·refine thn (T.item (aH X scope ns s3.heap.objs.size (cellsFrom (s3.heap.objs.size+1) scope.names (bU X.env scope.names)) s3 (upd H2 s2.heap.objs.size (.lst [])) fp) rfl rfl rfl hc i [] s5 τ H5 _ I5 (stat fr5) st5 go) fun r s6 ⟨u,hr,h6⟩=>?_;subst hr
   dsimp only
   refine zam (thn h6 fun _ s7 ⟨x,H7,I7,r7,y7,st7,fr7⟩=>?_);have I7':=I7.pinned (stat fr7) (T.obj _ _ st7);have back:∀ {τ9:St} {H9:Hp} {s9:Shared},Inv (aH X scope ns s3.heap.objs.size (cellsFrom (s3.heap.objs.size+1) scope.names (bU X.env scope.names)) s3 (upd H2 s2.heap.objs.size (.lst [])) fp) ([]++gJ fp s7.heap) τ9 H9 s9 ->
     Inv (aH X scope ns s3.heap.objs.size (cellsFrom (s3.heap.objs.size+1) scope.names (bU X.env scope.names)) s3 (upd H2 s2.heap.objs.size (.lst [])) fp) [] τ9 H9 s9/\tn (i+1) s9.heap/\∀ b∈fp,H9 b=none:=fun {τ9 H9 s9} I9=>by
    refine ⟨I9.unpinned,T.keep _ _ _ st7 fun b hb o e=>(I9.pin (b,o) (List.mem_append_right _ (List.mem_append_right _ (dN hb e)))).1,fun b hb=>?_⟩;obtain ⟨o,e,d⟩:=T.obj _ _ st7 b hb;exact (I9.pin (b,o) (List.mem_append_right _ (List.mem_append_right _ (dN hb e)))).2.1
   refine zam (thF (hg _ _ _ _ _ _ s7 τ H7 x u _ I7' r7 (step x H7 y7)) fun _ s8 ⟨τ8,H8,I8,q8⟩=>?_);refine zam (thF (ht _ _ _ _ _ _ s8 τ8 H8 _ I8 q8) fun b s9 ⟨H9,I9,q9⟩=>?_);cases b with
   | false =>
    rw [if_neg Bool.false_ne_true] at q9;obtain ⟨m',hm,w9⟩:=hN _ _ q9;obtain ⟨a1,a2,a3⟩:=back I9;exact zaR ⟨rfl,m',hm,i+1,τ8,H9,a1,a2,a3,w9⟩
   | true =>
    rw [if_pos rfl] at q9;refine zam (zam (thF (he _ _ _ _ _ _ s9 τ8 H9 _ I9 q9) fun v s10 ⟨y,H10,I10,r10,q10⟩=>?_));obtain ⟨xs,hx,hz,n10⟩:=q10;obtain ⟨m',hm,w10⟩:=hN _ _ n10;refine zam (thF (gP _ s10 τ8 H10 (.ref s2.heap.objs.size) [y] (.ref s2.heap.objs.size) [v] (fun _ H11=>W (i+1) m' τ8 H11) I10 rfl (.cons r10 .nil) ⟨_,xs,y,rfl,rfl,hx,hz,w10⟩) fun _ s11 ⟨_,H11,I11,_,q11⟩=>?_);obtain ⟨a1,a2,a3⟩:=back I11;exact zaR (zaR ⟨rfl,m',hm,i+1,τ8,H11,a1,a2,a3,q11⟩)
 have hst1:tn 0 h₁:=T.keep _ _ _ st2 fun b _ o e=>old b o (k3 b o e);subst hs3;exact codeAny_compStart_list (loop _) (T.self _ 0 _ _ _ hst1 (loop _))
def A2 (B:BlkOkC X scope ns js) (hc:X.calm=true) (hi:PI X tg iter wi)
  (hg:∀ C cl s₀ H₀ fp,PG (aH X scope ns C cl s₀ H₀ fp) tg g) (ht:∀ C cl s₀ H₀ fp,PTs (aH X scope ns C cl s₀ H₀ fp) ifs tt) (he:∀ C cl s₀ H₀ fp,PE (aH X scope ns C cl s₀ H₀ fp) elt te)
  (hs:∀ x,foldedSetIterable iter X.env x=pure x:=by intro _; rfl):PE X (.ListComp elt [⟨tg,iter,ifs,0⟩] scope pos) (tLC wi g tt te js):=by
 intro pins s σ H Q I h;rw [eval_ListComp];have hclos:=jq (scope:=scope) (env:=X.env) (fun y hy hk=>I.ok.has y.1 (B.free y hy hk));refine wpAny_comprehension_free (use:=none) rfl hs hclos B.kind B.names (thn (hi pins s σ H _ I h) fun v s1 h1=>thn h1 fun itv s2 h2=>?_);obtain ⟨it,fp,tn,J,H2,e,I2,T,st2,f2,hw⟩:=h2;subst e;refine k8 (RR:=fun acc C=>compPost (model X.prog X.w) X.A X.xe none (EP X pins σ Q) acc C) B hc I2 T st2 f2 hg ht he hw ?_;intro D C s' H' I' q hm c0 c1 c2 c3 c4;obtain ⟨m,hn⟩:=hm;exact ⟨m,hn,fun h' hs'=>⟨.ref D,H',I'.turned (t':=s'.toks) (fun b o hb e=>(hs'.2 b hb).trans e) c0 c1 (.inr c2) c3 c4,rfl,q⟩⟩
def nU {i:Nat} {x:Str} {spos pos':Pos} (hN:X.N.Nodup) (hi':X.N[i]?=some x) (hx:X.env.scope.names.lookup x=some .local) (B:BlkOkC X scope ns js) (hc:X.calm=true) (hi:PI X tg iter wi)
  (hg:∀ C cl s₀ H₀ fp,PG (aH X scope ns C cl s₀ H₀ fp) tg g) (ht:∀ C cl s₀ H₀ fp,PTs (aH X scope ns C cl s₀ H₀ fp) ifs tt) (he:∀ C cl s₀ H₀ fp,PE (aH X scope ns C cl s₀ H₀ fp) elt te)
  (hsw:swapsWith (.ListComp elt [⟨tg,iter,ifs,0⟩] scope pos) (some (.Name x pos')) spos.line X.env=pure true:=by rfl)
  (hs:∀ x,foldedSetIterable iter X.env x=pure x:=by intro _; rfl):PS X (.Assign [.Name x pos'] (.ListComp elt [⟨tg,iter,ifs,0⟩] scope pos) spos) (kO (tLC wi g tt te js) (iu i)):=by
 intro pins s σ H D I h;rw [exec_Assign_Name_used _ _ _ _ hsw];have hclos:=jq (scope:=scope) (env:=X.env) (fun y hy hk=>I.ok.has y.1 (B.free y hy hk));refine zam (wpAny_standAt (zam ?_));show wpAny _ X.A (do let _ <- comprehension (.ListComp elt [⟨tg,iter,ifs,0⟩] scope pos) scope X.env _ (newList []) false (eval iter X.env) (some (assign (.Name x pos') X.env))) _ _ s;refine zam (wpAny_mono (wpAny_comprehension_free (use:=some (assign (.Name x pos') X.env)) (Q:=fun _ s'=>SP X pins D .next s') rfl hs hclos B.kind B.names
  (thn (hi pins s σ H _ I h) fun v s1 h1=>thn h1 fun itv s2 h2=>?_)) (fun _ s' hq=>zaR (zaR hq)) fun _ _ e=>e)
 obtain ⟨it,fp,tn,J,H2,e,I2,T,st2,f2,hw⟩:=h2;subst e;refine k8 (RR:=fun acc C=>compPost (model X.prog X.w) X.A X.xe (some (assign (.Name x pos') X.env)) (fun _ s'=>SP X pins D .next s') acc C) B hc I2 T st2 f2 hg ht he hw ?_;intro D' C s' H' I' q hm c0 c1 c2 c3 c4;obtain ⟨m,hn⟩:=hm;show wpAny _ X.A (assign (.Name x pos') X.env (.ref D')) _ _ _;refine wpAny_assign_Name (j3 (v:=.ref D') I' hN hi' (.inl hx) rfl (fun s4 I4 ⟨a,hsb,ha⟩=>?_) (.inr hx));have ne:C≠a:=by
  rcases ha with z | z
  ·rw [z]; exact c1
  ·exact (c3 x a z).symm
 exact ⟨m,hn.sameBut hsb ne,fun h' hs'=>⟨_,H',I4.turned (t':=s4.toks) (fun b o hb e=>(hs'.2 b hb).trans e) c0 c1 (.inr c2) c3 c4,q⟩⟩
end
section
variable {X:Cx} {K:PySem.W.Frag}
end
mutual
def DV (H:Hp):V->PyData->Prop
 | v,.none=>v=.non
 | v,.bool b=>v=.bl b
 | v,.int i=>v=.int i
 | v,.str x=>v=.str x
 | v,.list ds=>∃ a xs,v=.ref a/\H a=some (.lst xs)/\DVs H xs ds
 | v,.tuple ds=>∃ a xs,v=.ref a/\H a=some (.tup xs)/\DVs H xs ds
 | _,.dict _=>False
def DVs (H:Hp):List V->List PyData->Prop
 | vs,[]=>vs=[]
 | vs,d :: ds=>∃ v r,vs=v :: r/\DV H v d/\DVs H r ds
end
section
variable {X:Cx} {pins:List (Addr × Obj)} {σ:St} {H:Hp} {s:Shared}
end
section
variable {X:Cx}
end
section
variable {prog:Program} {w:World} {A:Around} {E:Value->Shared->Prop} {s:Shared}
def mW {jt tu:Addr} {n:Nat} {vals:Array Value} {y:Value} {R:Value->Shared->Prop} (a1:s.heap.IsTupleIter jt tu n) (a2:s.heap.IsTuple tu vals) (a3:vals[n]?=some y)
  (q:∀ g,g.IsTupleIter jt tu (n+1)->Heap.SameBut jt s.heap g->R y { s with heap:=g }):wpAny (model prog w) A (Builtin.SmallTypes.nextOf (.ref jt)) R E s:=by
 obtain ⟨ob,b1,b2,b3⟩:=id a1;obtain ⟨ot,c1,_,m,c2⟩:=a2;unfold Builtin.SmallTypes.nextOf;refine zam (wpAny_callSpecial?_slot (name:=Str.ofString "__next__") a1.typeIs F.slot_tuple_iterator_next (wpAny_call_entry F.slot_tuple_iterator_next a1.typeIs F.entry_tuple_iterator_next ?_ (F.args_tuple_iterator_next_1 _)));show wpAny _ _ (field (.ref jt) 0 >>= _) _ _ s;refine zam (wpAny_field b1 b3 (x:=.ref tu) rfl ?_);show wpAny _ _ (if (Value.ref tu == Value.none)=true then _ else _) _ _ s;rw [if_neg (show ¬ ((Value.ref tu == Value.none)=true) from Bool.false_ne_true)];show wpAny _ _ (field (.ref jt) 1 >>= _) _ _ s;refine zam (wpAny_field b1 b3 (x:=.int n 0) rfl ?_);show wpAny _ _ (seqItems? (.ref tu) >>= _) _ _ s;refine zam (wpAny_seqItems c1 c2 ?_);simp only [zaJ,a3];refine zam (wpAny_setField b1 b3 (by simp) (zaR ⟨y,rfl,zaR (q _ ?_ (Heap.SameBut.update ..))⟩));refine ⟨_,Heap.get?_update_self _ b1 (Obj.isFreed_of_fields (Obj.data_mapFields b3 _)),(Obj.cls_mapFields ..).trans b2,?_⟩;rw [Obj.data_mapFields b3];simp [rawInt]
def j2 {jt tu:Addr} {n:Nat} {vals:Array Value} {R:Value->Shared->Prop} (hh:A.handled=none) (a1:s.heap.IsTupleIter jt tu n) (a2:s.heap.IsTuple tu vals) (a3:vals[n]?=none)
  (q:∀ g e,Heap.ExtBut jt s.heap g->(∃ o,g.get? e=some o/\o.cls=.type "StopIteration")->E (.ref e) { s with heap:=g }):wpAny (model prog w) A (Builtin.SmallTypes.nextOf (.ref jt)) R E s:=by
 obtain ⟨ob,b1,b2,b3⟩:=id a1;obtain ⟨ot,c1,_,m,c2⟩:=a2;unfold Builtin.SmallTypes.nextOf;refine zam (wpAny_callSpecial?_slot (name:=Str.ofString "__next__") a1.typeIs F.slot_tuple_iterator_next (wpAny_call_entry F.slot_tuple_iterator_next a1.typeIs F.entry_tuple_iterator_next ?_ (F.args_tuple_iterator_next_1 _)));show wpAny _ _ (field (.ref jt) 0 >>= _) _ _ s;refine zam (wpAny_field b1 b3 (x:=.ref tu) rfl ?_);show wpAny _ _ (if (Value.ref tu == Value.none)=true then _ else _) _ _ s;rw [if_neg (show ¬ ((Value.ref tu == Value.none)=true) from Bool.false_ne_true)];show wpAny _ _ (field (.ref jt) 1 >>= _) _ _ s;refine zam (wpAny_field b1 b3 (x:=.int n 0) rfl ?_);show wpAny _ _ (seqItems? (.ref tu) >>= _) _ _ s;refine zam (wpAny_seqItems c1 c2 ?_);simp only [zaJ,a3];refine zam (wpAny_rule (zam (wpAny_setField b1 b3 (by simp) ?_)));show wpAny _ _ (newExc (.type "StopIteration") [] >>= _) _ _ _;refine zam ?_;simp only [newExc,newTuple];refine zam (wpAny_newObj_type ?_ (by show (0:Nat)<=_; exact Nat.zero_le _));refine zam (m:=firstArgMember _ _) (wpAny_of_eq (a:=Value.none) (by first | rfl | (simp only [firstArgMember]; rfl)) ?_);refine wpAny_newObj_type ?_;simp only [raiseNew];refine zam (wpAny_handled ?_)
 first | rw [show A.in1.handled=none from hh] | rw [hh]
 refine zam (zaR (wpAny_throw ?_));exact q _ _ (((Heap.SameBut.update ..).extBut.push _).push _) ⟨_,zan _ rfl,rfl⟩
def pk (hh:A.handled=none) (jt tu:Addr) (hne:tu≠jt) (vals:Array Value):Draws prog w A jt [jt,tu] vals.size (fun i v=>vals[i]?=some v) (fun i h=>h.IsTupleIter jt tu i/\h.IsTuple tu vals) where
 live:=fun _ _ st=>let ⟨o,ho,_⟩:=st.1; ⟨o,ho⟩
 frame:=fun _ _ _ st hk=>⟨st.1.at fun o e=>hk jt (by simp) o e,let ⟨o,ho,r⟩:=st.2; ⟨o,hk tu (by simp) o ho,r⟩⟩
 item:=fun i s Q E hi st hQ=>by
  refine mW st.1 st.2 (y:=vals[i]) (by simp [hi]) fun g st' sb=>?_;exact hQ _ g s.toks (by simp [hi]) ⟨st',let ⟨o,ho,r⟩:=st.2; ⟨o,sb.extBut _ _ hne ho,r⟩⟩ sb
 done:=fun s Q E st hE=>j2 hh st.1 st.2 (by simp) hE
end
def jH (tu:Addr) (vals:Array Value) (n:Nat) (dct:Option Addr) (sl:Array (Option Value)) :
  Meets (Builtin.«enumerate.__new__» ⟨[.type "enumerate",.ref tu],[]⟩) (fun _ R s=>s.heap.get? tu=some { cls:=.type "tuple",dict:=dct,data:=.seq vals n,slots:=sl } /\
   R (.ok (.ret (.ref (s.heap.push { cls:=.type "tuple_iterator",data:=.fields #[.ref tu,.int 0 0] }).objs.size)))
    { s with heap:=(s.heap.push { cls:=.type "tuple_iterator",data:=.fields #[.ref tu,.int 0 0] }).push { cls:=.type "enumerate",data:=.fields #[.none,.bool false,.ref s.heap.objs.size,rawInt 0,.none,.none] } }) :=
 .of_wp fun prog w A R s h=>by
  obtain ⟨hp,g,d,tk,os⟩:=s;obtain ⟨ht,h⟩:=h;have hsub:=sub_enumerate;have hT:Heap.IsTuple (Shared.heap ⟨hp,g,d,tk,os⟩) tu vals:=⟨_,ht,rfl,n,rfl⟩
  wp_walk using AutoSeq1.wpAny_loadPart' ht
  refine wpAny_stack_any fun st=>zaR ?_;split
  ·rename_i c _ _ _ _ _;cases (c == Value.type "enumerate")
   ·wp_walk using AutoSeq1.wpAny_loadPart' ht,wpAny_pyIter_tuple hT
    exact ⟨_,rfl,h⟩
   ·wp_walk using AutoSeq1.wpAny_loadPart' ht,wpAny_pyIter_tuple hT
    exact ⟨_,rfl,h⟩
  ·wp_walk using AutoSeq1.wpAny_loadPart' ht,wpAny_pyIter_tuple hT
   exact ⟨_,rfl,h⟩
section
variable {prog:Program} {w:World} {A:Around} {E:Value->Shared->Prop} {s:Shared}
def kw {tu:Addr} {vals:Array Value} {Q:Value->Shared->Prop} (hT:s.heap.IsTuple tu vals)
  (h:∀ g,IsEnum g (s.heap.objs.size+1) s.heap.objs.size 0 .none->g.IsTupleIter s.heap.objs.size tu 0->g.objs.size=s.heap.objs.size+2 ->
   (∀ b o,s.heap.get? b=some o->g.get? b=some o)->Q (.ref (s.heap.objs.size+1)) { s with heap:=g }) :
  wpAny (model prog w) A (call (.type "enumerate") [.ref tu]) Q E s:=by
 obtain ⟨⟨c,dct,dt,sl⟩,hl,hc,n,hd⟩:=hT;have hc':c=.type "tuple":=hc;have hd':dt=.seq vals n:=hd;subst hc' hd';refine callType_new F.called_enumerate (by decide) (F.typeCall_enumerate_1 _) (F.newCall_enumerate_1 _) (fun ob=>F.args_object_init_2 ob _) F.entry_enumerate_new (jH tu vals n dct sl) ⟨hl,?_⟩;have sz1:(s.heap.push { cls:=.type "tuple_iterator",data:=.fields #[.ref tu,.int 0 0] }).objs.size=s.heap.objs.size+1:=Heap.size_push ..;show _/\_;rw [sz1];have g2:=zan (s.heap.push { cls:=.type "tuple_iterator",data:=.fields #[.ref tu,.int 0 0] }) (o:={ cls:=.type "enumerate",data:=.fields #[.none,.bool false,.ref s.heap.objs.size,rawInt 0,.none,.none] }) rfl;rw [sz1] at g2;refine ⟨⟨_,g2,rfl⟩,h _ g2 ⟨_,zaf _ (zan _ rfl),rfl,rfl⟩ (by rw [Heap.size_push,sz1]) fun b o x=>zaf _ (zaf _ x)⟩
def pj {e it tu:Addr} {i:Int} {n:Nat} {vals:Array Value} {old:Value} {Q:Option Value->Shared->Prop} (hh:A.handled=none) (he:IsEnum s.heap e it i old) (a1:s.heap.IsTupleIter it tu n) (a2:s.heap.IsTuple tu vals) (a3:vals[n]?=none)
  (q:∀ g,Heap.ExtBut it s.heap g->Q none { s with heap:=g }):wpAny (model prog w) A (pyNext (.ref e)) Q E s:=by
 have ty:s.TypeIs (.ref e) "enumerate":=⟨_,he,rfl⟩;unfold pyNext;refine zam (wpAny_attempt (wpAny_callSpecial?_slot (name:=Str.ofString "__next__") ty F.slot_enumerate_next (wpAny_call_entry F.slot_enumerate_next ty F.entry_enumerate_next ?_ (F.args_enumerate_next_1 _))));show wpAny _ _ (field (.ref e) 2 >>= _) _ _ _;refine zam (wpAny_field he rfl (x:=.ref it) rfl ?_);refine zam (j2 hh a1 a2 a3 fun g x k hx=>?_);obtain ⟨o,ho,hc⟩:=hx;exact zam (wpAny_isInstance (T:="StopIteration") (b:=true) ⟨o,ho,hc⟩ isSubtype_stop (zaR (q _ k)))
end
def ItT (K:PySem.W.Frag) (a:Addr):It :=
 ⟨fun i H=>∃ xs x,SqT K H a xs/\xs[i]?=some x,
  fun i H y H'=>∃ p x,y=.ref p/\H p=none/\H'=upd H p (.tup [.int i,x])/\∀ xs,SqT K H a xs->xs[i]?=some x,
  fun i H=>∃ xs,SqT K H a xs/\xs.length<=i⟩
def mV {P:Program} {w:World} {K:PySem.W.Frag} {elts:List Expr} {k:Nat} {tp:Pos} (a e it:Addr) (hei:e≠it) (hai:a≠it) :
  Turn P w K (.Tuple elts k tp) (ItT K a) [e,it] e (fun i h=>(∃ old,IsEnum h e it i old)/\h.IsTupleIter it a i) where
 mem:=by simp
 obj:=fun i h st b hb=>by
  obtain ⟨⟨old,he⟩,o,ho,hc,hd⟩:=st;have hb':b=e\/b=it:=by simpa using hb
  rcases hb' with rfl | rfl
  ·exact ⟨_,he,fun v z=>by
    have z':Data.fields _=Data.cell v:=z;cases z'⟩
  ·exact ⟨o,ho,fun v z=>by rw [hd] at z; cases z⟩
 keep:=fun i h h' st kp=>⟨let ⟨old,he⟩:=st.1; ⟨old,kp e (by simp) _ he⟩,st.2.at fun o q=>kp it (by simp) o q⟩
 item:=by
  intro X hP hw hK hc i pins s σ H E I hf st hg;subst hP hw hK;obtain ⟨xs,x,hq,hx⟩:=hg;obtain ⟨its,rv,pt,hz⟩:=I.tuple hq;obtain ⟨u,hu,ru⟩:=rv.get hx;obtain ⟨⟨old,he⟩,hit⟩:=st;have hT:s.heap.IsTuple a its.toArray:=pt;have hea:e≠a:=fun z=>by
   subst z;obtain ⟨o,e1,e2,_⟩:=id hT;have he':s.heap.get? e=some _:=he;rw [e1] at he';cases he';simp at e2
  have hu':its.toArray[i]?=some u:=by simpa using hu
  have hlt:i < its.toArray.size:=(Array.getElem?_eq_some_iff.mp hu').1;refine wpAny_pyNext_enum_itemD (pk (A:=X.A.in1) (show X.A.in1.handled=none from I.ok.hd hc) it a hai its.toArray) he ⟨hit,hT⟩ hlt hei (by simp [hei,hea]) fun y h1 tk hy ho1 st1 ht1 hz1 hk1=>?_;rw [hu'] at hy;cases hy;refine ⟨_,rfl,wpAny_letOwnedTupleGo_enum ho1 fun h2 he2 hs2=>?_⟩;have eL:e < s.heap.objs.size:=zal he;have ht2:h2.get? s.heap.objs.size=some { cls:=.type "tuple",data:=.seq #[.int i tk,u] }:=(hs2.2 _ (Nat.ne_of_gt eL)).trans ht1;have hit2:h2.IsTupleIter it a (i+1):=st1.1.at fun o q=>hs2.extBut _ _ hei.symm q;have I2:Inv X pins σ (upd H s.heap.objs.size (.tup [.int i,x])) { s with heap:=h2,toks:=tk+1 }:=by
   refine I.turnedLaid (fp:=[e,it]) hf (zav _) (fun b ob hb q=>?_) (fun b hb=>?_) ?_
   ·have h1:b≠e:=fun z=>hb (by simp [z]);have h2':b≠it:=fun z=>hb (by simp [z]);exact (hs2.2 b h1).trans (hk1 b ob h1 h2' q)
   ·have hb':b=e\/b=it:=by simpa using hb
    rcases hb' with rfl | rfl
    ·exact ⟨_,he2⟩
    ·obtain ⟨o,ho,_⟩:=hit2;exact ⟨o,ho⟩
   ·refine ⟨(by show 2<=sizeLine; decide),[.int i tk,u],.cons ⟨_,rfl⟩ (.cons ru .nil),?_⟩;exact ⟨_,ht2,rfl,_,rfl,rfl⟩
  have fr:∀ b∈[e,it],upd H s.heap.objs.size (.tup [.int i,x]) b=none:=fun b hb=>by
   have hlt:b < s.heap.objs.size:=by
    have hb':b=e\/b=it:=by simpa using hb
    rcases hb' with rfl | rfl
    ·exact eL
    ·obtain ⟨o,ho,_⟩:=hit;exact zal ho
   rw [aC (zaw hlt)];exact (hf b hb).1
  exact ⟨.ref s.heap.objs.size,_,I2,rfl,⟨_,x,rfl,I.fresh,rfl,fun ys hy=>by rw [I.tuple_inj hy hq]; exact hx⟩,⟨⟨_,he2⟩,hit2⟩,fr⟩
 done:=by
  intro X hP hw hK hc i pins s σ H E I hf st hg;subst hP hw hK;obtain ⟨xs,hq,hx⟩:=hg;obtain ⟨its,rv,pt,hz⟩:=I.tuple hq;obtain ⟨⟨old,he⟩,hit⟩:=st;obtain ⟨f0,f1,f2,f3,f4,f5⟩:=hf it (by simp);have hl:=rv.length;have hT:s.heap.IsTuple a its.toArray:=pt;exact pj (I.ok.hd hc) he hit hT (by simp; omega) fun h' eb=>⟨rfl,I.turned (t':=s.toks) (fun b o hb q=>eb b o hb q) f0 f1 f3 f4 f5⟩
 self:=fun _ _ _ _ _ st h=>let ⟨⟨_,he⟩,_⟩:=st; wpAny_pyIter_enum he h
section
variable {X:Cx} {K:PySem.W.Frag}
end
section
open PySem.SeqAt
end
def Rp (H:Hp) (v:V) (txt:Str):Prop:=(∃ d,DV H v d/\d.showable=true/\d.depth<=60/\d.shown.length<=sizeLine/\txt=d.shown)\/∃ a,v=.ref a/\H a=some (.dK [])/\txt=("{}" : Str)
section
variable {X:Cx}
end
abbrev D:=PyData
abbrev En:=List (Option D)
abbrev AS:=Addr->Prop
def dn:Nat->Nat
 | 0=>0
 | 1=>0
 | 2=>1
 | n+3=>n+3
def jQ:∀ {a b:Nat},a<=b->dn a<=dn b
 | 0,_,_=>Nat.zero_le _
 | 1,_,_=>Nat.zero_le _
 | 2,2,_=>zav _
 | 2,b+3,_=>by show 1<=b+3; omega
 | a+3,b+3,h=>h
 | a+3,0,h=>by omega
 | a+3,1,h=>by omega
 | a+3,2,h=>by omega
 | 2,0,h=>by omega
 | 2,1,h=>by omega
def kD:Key->D
 | .inl i=>.int i
 | .inr x=>.str x
def FzL (K:PySem.W.Frag) (O:AS) (H:Hp) (a:Addr) (vs:List V):Prop:=(Rd H a (.lst vs)/\¬ O a)\/∀ H',SqL K H' a vs
def FzT (K:PySem.W.Frag) (O:AS) (H:Hp) (a:Addr) (vs:List V):Prop:=H a=some (.tup vs)/\¬ O a
def FzL.sq {K:PySem.W.Frag} {O:AS} {H:Hp} {a:Addr} {vs:List V} (h:FzL K O H a vs):SqL K H a vs:=h.elim (fun h=>.inl h.1) fun h=>h H
def FzT.sq {K:PySem.W.Frag} {O:AS} {H:Hp} {a:Addr} {vs:List V} (h:FzT K O H a vs):SqT K H a vs:=SqT.of h.1
def Cd (a C:Addr):Heap->Prop:=fun h=>∃ o,h.get? a=some o/\o.cls=.ref C/\∀ c,o.data≠.cls c
def TupD (K:PySem.W.Frag) (H:Hp) (O:AS) (ks:List (D × D)) (a:Addr):Prop:=(∃ (kk:List Key) (b:Bool),ks=[(.tuple (kk.map kD),.bool b)]/\H a=some (.dT [(kk,.bl b)])/\¬ O a) \/
 ∃ (x:Str) (C:Addr),ks=[(.none,.str x)]/\PySem.W.nsIn K mainGlobals x=some (some (.ref C))/\H a=some (.ext (Cd a C))/\¬ O a
def TupD.to {K:PySem.W.Frag} {H H':Hp} {O O':AS} {ks:List (D × D)} {a:Addr} (h:TupD K H O ks a) (k:∀ o,H a=some o->¬ O a->H' a=some o/\¬ O' a):TupD K H' O' ks a:=by
 rcases h with ⟨kk,b,h1,h2,h3⟩ | ⟨x,C,h1,h0,h2,h3⟩
 ·obtain ⟨g1,g2⟩:=k _ h2 h3;exact .inl ⟨kk,b,h1,g1,g2⟩
 ·obtain ⟨g1,g2⟩:=k _ h2 h3;exact .inr ⟨x,C,h1,h0,g1,g2⟩
mutual
def Ow (K:PySem.W.Frag) (O:AS) (H:Hp):D->Nat->V->AS->Prop
 | .none,_,v,_=>v=.non
 | .bool b,_,v,_=>v=.bl b
 | .int i,_,v,_=>v=.int i
 | .str x,_,v,_=>v=.str x
 | .tuple ts,d,v,F=>∃ a vs,v=.ref a/\((d=0/\FzT K O H a vs/\Ows K O H ts 0 vs F)\/(d≠0/\H a=some (.tup vs)/\F a/\∃ F':AS,(∀ b,F' b->F b/\b≠a)/\Ows K O H ts (dn d) vs F'))
 | .list ts,d,v,F=>∃ a vs,v=.ref a/\((d=0/\FzL K O H a vs/\Ows K O H ts 0 vs F)\/(d≠0/\H a=some (.lst vs)/\F a/\∃ F':AS,(∀ b,F' b->F b/\b≠a)/\Ows K O H ts (dn d) vs F'))
 | .dict ks,d,v,F=>∃ a vs,v=.ref a/\((d=0/\H a=some (.dK vs)/\¬ O a/\Owd K O H ks 0 vs F)\/(d≠0/\H a=some (.dK vs)/\F a/\∃ F':AS,(∀ b,F' b->F b/\b≠a)/\Owd K O H ks (dn d) vs F')\/(d=0/\TupD K H O ks a))
def Ows (K:PySem.W.Frag) (O:AS) (H:Hp):List D->Nat->List V->AS->Prop
 | [],_,vs,_=>vs=[]
 | t :: ts,d,vs,F=>∃ v r,∃ F1 F2:AS,vs=v :: r/\(∀ b,F1 b->F b)/\(∀ b,F2 b->F b)/\(∀ b,F1 b->¬ F2 b)/\Ow K O H t d v F1/\Ows K O H ts d r F2
def Owd (K:PySem.W.Frag) (O:AS) (H:Hp):List (D × D)->Nat->List (Key × V)->AS->Prop
 | [],_,vs,_=>vs=[]
 | (k,t) :: ts,d,vs,F=>∃ q v r,∃ F1 F2:AS,vs=(q,v) :: r/\k=kD q/\(∀ b,F1 b->F b)/\(∀ b,F2 b->F b)/\(∀ b,F1 b->¬ F2 b)/\Ow K O H t d v F1/\Owd K O H ts d r F2
end
section
variable {K:PySem.W.Frag} {O O':AS} {H H':Hp}
def Rd.mv {a:Addr} {u:HO} (hk:∀ o,H a=some o->H' a=some o) (h:Rd H a u):Rd H' a u:=by
 rcases h with h | ⟨o,h⟩
 ·exact .inl (hk _ h)
 ·exact .inr ⟨o,hk _ h⟩
def Rd.there {a:Addr} {u:HO} (h:Rd H a u):H a≠none:=by
 rcases h with h | ⟨o,h⟩ <;> rw [h] <;> exact fun z=>nomatch z
structure Mv (O O':AS) (G:AS) (H H':Hp):Prop where
 k:∀ a o,H a=some o->(¬ O a\/G a)->H' a=some o
 o:∀ a,O' a->O a\/H a=none
def FzL.mv {G:AS} {a:Addr} {vs:List V} (m:Mv O O' G H H') (h:FzL K O H a vs):FzL K O' H' a vs:=by
 rcases h with ⟨h,n⟩ | h
 ·refine .inl ⟨h.mv fun o e=>m.k _ _ e (.inl n),fun z=>?_⟩;rcases m.o _ z with z | z
  ·exact n z
  ·exact h.there z
 ·exact .inr h
def FzT.mv {G:AS} {a:Addr} {vs:List V} (m:Mv O O' G H H') (h:FzT K O H a vs):FzT K O' H' a vs:=by
 obtain ⟨h,n⟩:=h;refine ⟨m.k _ _ h (.inl n),fun z=>?_⟩;rcases m.o _ z with z | z
 ·exact n z
 ·rw [h] at z; cases z
mutual
theorem Ow.mv {G:AS} (m:Mv O O' G H H'):∀ (t:D) {d:Nat} {v:V} {F:AS},(∀ b,F b->G b)->Ow K O H t d v F->Ow K O' H' t d v F
 | .none,_,_,_,_,h=>h
 | .bool _,_,_,_,_,h=>h
 | .int _,_,_,_,_,h=>h
 | .str _,_,_,_,_,h=>h
 | .tuple ts,_,_,_,g,h=>by
  obtain ⟨a,vs,e,⟨h0,h1,h2⟩ | ⟨h0,h1,h2,F',hf,h3⟩⟩:=h
  ·exact ⟨a,vs,e,.inl ⟨h0,h1.mv m,Ows.mv m ts g h2⟩⟩
  ·exact ⟨a,vs,e,.inr ⟨h0,m.k _ _ h1 (.inr (g _ h2)),h2,F',hf,Ows.mv m ts (fun b hb=>g _ (hf b hb).1) h3⟩⟩
 | .list ts,_,_,_,g,h=>by
  obtain ⟨a,vs,e,⟨h0,h1,h2⟩ | ⟨h0,h1,h2,F',hf,h3⟩⟩:=h
  ·exact ⟨a,vs,e,.inl ⟨h0,h1.mv m,Ows.mv m ts g h2⟩⟩
  ·exact ⟨a,vs,e,.inr ⟨h0,m.k _ _ h1 (.inr (g _ h2)),h2,F',hf,Ows.mv m ts (fun b hb=>g _ (hf b hb).1) h3⟩⟩
 | .dict ks,_,_,_,g,h=>by
  obtain ⟨a,vs,e,⟨h0,h1,hn,h2⟩ | ⟨h0,h1,h2,F',hf,h3⟩ | ⟨h0,ht⟩⟩:=h
  ·refine ⟨a,vs,e,.inl ⟨h0,m.k _ _ h1 (.inl hn),fun z=>?_,Owd.mv m ks g h2⟩⟩;rcases m.o _ z with z | z
   ·exact hn z
   ·rw [h1] at z; cases z
  ·exact ⟨a,vs,e,.inr (.inl ⟨h0,m.k _ _ h1 (.inr (g _ h2)),h2,F',hf,Owd.mv m ks (fun b hb=>g _ (hf b hb).1) h3⟩)⟩
  ·refine ⟨a,vs,e,.inr (.inr ⟨h0,ht.to fun o h2 hn=>⟨m.k _ _ h2 (.inl hn),fun z=>?_⟩⟩)⟩;rcases m.o _ z with z | z
   ·exact hn z
   ·rw [h2] at z; cases z
theorem Ows.mv {G:AS} (m:Mv O O' G H H'):∀ (ts:List D) {d:Nat} {vs:List V} {F:AS},(∀ b,F b->G b)->Ows K O H ts d vs F->Ows K O' H' ts d vs F
 | [],_,_,_,_,h=>h
 | t :: ts,_,_,_,g,h=>by
  obtain ⟨v,r,F1,F2,e,h1,h2,h3,h4,h5⟩:=h;exact ⟨v,r,F1,F2,e,h1,h2,h3,Ow.mv m t (fun b hb=>g _ (h1 b hb)) h4,Ows.mv m ts (fun b hb=>g _ (h2 b hb)) h5⟩
theorem Owd.mv {G:AS} (m:Mv O O' G H H'):∀ (ts:List (D × D)) {d:Nat} {vs:List (Key × V)} {F:AS},(∀ b,F b->G b)->Owd K O H ts d vs F->Owd K O' H' ts d vs F
 | [],_,_,_,_,h=>h
 | (k,t) :: ts,_,_,_,g,h=>by
  obtain ⟨q,v,r,F1,F2,e,e2,h1,h2,h3,h4,h5⟩:=h;exact ⟨q,v,r,F1,F2,e,e2,h1,h2,h3,Ow.mv m t (fun b hb=>g _ (h1 b hb)) h4,Owd.mv m ts (fun b hb=>g _ (h2 b hb)) h5⟩
end
def FzL.sub {a:Addr} {vs:List V} (ho:∀ a,O' a->O a) (h:FzL K O H a vs):FzL K O' H a vs:=h.imp (fun h=>⟨h.1,fun z=>h.2 (ho _ z)⟩) id
def FzT.sub {a:Addr} {vs:List V} (ho:∀ a,O' a->O a) (h:FzT K O H a vs):FzT K O' H a vs:=⟨h.1,fun z=>h.2 (ho _ z)⟩
mutual
theorem Ow.cut:∀ (t:D) {d d':Nat} {v:V} {F:AS},d'<=d->Ow K O H t d v F->∃ F':AS,(∀ b,F' b->F b)/\∀ O':AS,(∀ a,O' a->O a)->(∀ a,F a->O' a->F' a)->Ow K O' H t d' v F'
 | .none,_,_,_,F,_,h=>⟨F,fun _ z=>z,fun _ _ _=>h⟩
 | .bool _,_,_,_,F,_,h=>⟨F,fun _ z=>z,fun _ _ _=>h⟩
 | .int _,_,_,_,F,_,h=>⟨F,fun _ z=>z,fun _ _ _=>h⟩
 | .str _,_,_,_,F,_,h=>⟨F,fun _ z=>z,fun _ _ _=>h⟩
 | .tuple ts,d,d',_,F,hd,h=>by
  obtain ⟨a,vs,e,⟨h0,h1,h2⟩ | ⟨h0,h1,h2,G,hg,h3⟩⟩:=h
  ·subst h0;have e0:d'=0:=by omega
   subst e0;obtain ⟨F',s1,s2⟩:=Ows.cut ts (zav _) h2;exact ⟨F',s1,fun O' ho hx=>⟨a,vs,e,.inl ⟨rfl,h1.sub ho,s2 O' ho hx⟩⟩⟩
  ·by_cases e0:d'=0
   ·subst e0;obtain ⟨F',s1,s2⟩:=Ows.cut ts (Nat.zero_le _) h3;refine ⟨F',fun b hb=>(hg _ (s1 b hb)).1,fun O' ho hx=>⟨a,vs,e,.inl ⟨rfl,⟨h1,fun z=>(hg _ (s1 _ (hx _ h2 z))).2 rfl⟩,s2 O' ho fun b hb=>hx b (hg b hb).1⟩⟩⟩
   ·obtain ⟨F',s1,s2⟩:=Ows.cut ts (jQ hd) h3;refine ⟨fun b=>b=a\/F' b,fun b hb=>hb.elim (fun z=>z ▸ h2) fun z=>(hg _ (s1 b z)).1,fun O' ho hx=>⟨a,vs,e,.inr ⟨e0,h1,.inl rfl,F',fun b hb=>⟨.inr hb,(hg _ (s1 b hb)).2⟩,s2 O' ho fun b hb hz=>?_⟩⟩⟩;exact (hx b (hg b hb).1 hz).elim (fun z=>absurd z (hg b hb).2) id
 | .list ts,d,d',_,F,hd,h=>by
  obtain ⟨a,vs,e,⟨h0,h1,h2⟩ | ⟨h0,h1,h2,G,hg,h3⟩⟩:=h
  ·subst h0;have e0:d'=0:=by omega
   subst e0;obtain ⟨F',s1,s2⟩:=Ows.cut ts (zav _) h2;exact ⟨F',s1,fun O' ho hx=>⟨a,vs,e,.inl ⟨rfl,h1.sub ho,s2 O' ho hx⟩⟩⟩
  ·by_cases e0:d'=0
   ·subst e0;obtain ⟨F',s1,s2⟩:=Ows.cut ts (Nat.zero_le _) h3;refine ⟨F',fun b hb=>(hg _ (s1 b hb)).1,fun O' ho hx=>⟨a,vs,e,.inl ⟨rfl,.inl ⟨.inl h1,fun z=>(hg _ (s1 _ (hx _ h2 z))).2 rfl⟩,s2 O' ho fun b hb=>hx b (hg b hb).1⟩⟩⟩
   ·obtain ⟨F',s1,s2⟩:=Ows.cut ts (jQ hd) h3;refine ⟨fun b=>b=a\/F' b,fun b hb=>hb.elim (fun z=>z ▸ h2) fun z=>(hg _ (s1 b z)).1,fun O' ho hx=>⟨a,vs,e,.inr ⟨e0,h1,.inl rfl,F',fun b hb=>⟨.inr hb,(hg _ (s1 b hb)).2⟩,s2 O' ho fun b hb hz=>?_⟩⟩⟩;exact (hx b (hg b hb).1 hz).elim (fun z=>absurd z (hg b hb).2) id
 | .dict ts,d,d',_,F,hd,h=>by
  obtain ⟨a,vs,e,⟨h0,h1,hn,h2⟩ | ⟨h0,h1,h2,G,hg,h3⟩ | ⟨h0,ht⟩⟩:=h
  ·subst h0;have e0:d'=0:=by omega
   subst e0;obtain ⟨F',s1,s2⟩:=Owd.cut ts (zav _) h2;exact ⟨F',s1,fun O' ho hx=>⟨a,vs,e,.inl ⟨rfl,h1,fun z=>hn (ho _ z),s2 O' ho hx⟩⟩⟩
  ·by_cases e0:d'=0
   ·subst e0;obtain ⟨F',s1,s2⟩:=Owd.cut ts (Nat.zero_le _) h3;refine ⟨F',fun b hb=>(hg _ (s1 b hb)).1,fun O' ho hx=>⟨a,vs,e,.inl ⟨rfl,h1,fun z=>(hg _ (s1 _ (hx _ h2 z))).2 rfl,s2 O' ho fun b hb=>hx b (hg b hb).1⟩⟩⟩
   ·obtain ⟨F',s1,s2⟩:=Owd.cut ts (jQ hd) h3;refine ⟨fun b=>b=a\/F' b,fun b hb=>hb.elim (fun z=>z ▸ h2) fun z=>(hg _ (s1 b z)).1,fun O' ho hx=>⟨a,vs,e,.inr (.inl ⟨e0,h1,.inl rfl,F',fun b hb=>⟨.inr hb,(hg _ (s1 b hb)).2⟩,s2 O' ho fun b hb hz=>?_⟩)⟩⟩;exact (hx b (hg b hb).1 hz).elim (fun z=>absurd z (hg b hb).2) id
  ·subst h0;have e0:d'=0:=by omega
   subst e0;exact ⟨F,fun _ z=>z,fun O' ho hx=>⟨a,vs,e,.inr (.inr ⟨rfl,ht.to fun o h2 hn=>⟨h2,fun z=>hn (ho _ z)⟩⟩)⟩⟩
theorem Ows.cut:∀ (ts:List D) {d d':Nat} {vs:List V} {F:AS},d'<=d->Ows K O H ts d vs F->∃ F':AS,(∀ b,F' b->F b)/\∀ O':AS,(∀ a,O' a->O a)->(∀ a,F a->O' a->F' a)->Ows K O' H ts d' vs F'
 | [],_,_,_,F,_,h=>⟨F,fun _ z=>z,fun _ _ _=>h⟩
 | t :: ts,_,_,_,F,hd,h=>by
  obtain ⟨v,r,F1,F2,e,h1,h2,h3,h4,h5⟩:=h;obtain ⟨G1,a1,a2⟩:=Ow.cut t hd h4;obtain ⟨G2,b1,b2⟩:=Ows.cut ts hd h5;refine ⟨fun b=>G1 b\/G2 b,fun b hb=>hb.elim (fun z=>h1 _ (a1 _ z)) fun z=>h2 _ (b1 _ z),fun O' ho hx=>⟨v,r,G1,G2,e,fun b=>.inl,fun b=>.inr,fun b z1 z2=>h3 b (a1 b z1) (b1 b z2),a2 O' ho fun b hb hz=>?_,b2 O' ho fun b hb hz=>?_⟩⟩
  ·exact (hx b (h1 b hb) hz).elim id fun z=>absurd (b1 b z) (h3 b hb)
  ·exact (hx b (h2 b hb) hz).elim (fun z=>absurd hb (h3 b (a1 b z))) id
theorem Owd.cut:∀ (ts:List (D × D)) {d d':Nat} {vs:List (Key × V)} {F:AS},d'<=d->Owd K O H ts d vs F->∃ F':AS,(∀ b,F' b->F b)/\∀ O':AS,(∀ a,O' a->O a)->(∀ a,F a->O' a->F' a)->Owd K O' H ts d' vs F'
 | [],_,_,_,F,_,h=>⟨F,fun _ z=>z,fun _ _ _=>h⟩
 | (k,t) :: ts,_,_,_,F,hd,h=>by
  obtain ⟨q,v,r,F1,F2,e,e2,h1,h2,h3,h4,h5⟩:=h;obtain ⟨G1,a1,a2⟩:=Ow.cut t hd h4;obtain ⟨G2,b1,b2⟩:=Owd.cut ts hd h5;refine ⟨fun b=>G1 b\/G2 b,fun b hb=>hb.elim (fun z=>h1 _ (a1 _ z)) fun z=>h2 _ (b1 _ z),fun O' ho hx=>⟨q,v,r,G1,G2,e,e2,fun b=>.inl,fun b=>.inr,fun b z1 z2=>h3 b (a1 b z1) (b1 b z2),a2 O' ho fun b hb hz=>?_,b2 O' ho fun b hb hz=>?_⟩⟩
  ·exact (hx b (h1 b hb) hz).elim id fun z=>absurd (b1 b z) (h3 b hb)
  ·exact (hx b (h2 b hb) hz).elim (fun z=>absurd hb (h3 b (a1 b z))) id
end
mutual
theorem Ow.grow (ho:∀ a,O' a->O a):∀ (t:D) {d:Nat} {v:V} {F F':AS},(∀ b,F b->F' b)->Ow K O H t d v F->Ow K O' H t d v F'
 | .none,_,_,_,_,_,h=>h
 | .bool _,_,_,_,_,_,h=>h
 | .int _,_,_,_,_,_,h=>h
 | .str _,_,_,_,_,_,h=>h
 | .tuple ts,_,_,_,_,hf,h=>by
  obtain ⟨a,vs,e,⟨h0,h1,h2⟩ | ⟨h0,h1,h2,G,hg,h3⟩⟩:=h
  ·exact ⟨a,vs,e,.inl ⟨h0,h1.sub ho,Ows.grow ho ts hf h2⟩⟩
  ·exact ⟨a,vs,e,.inr ⟨h0,h1,hf _ h2,G,fun b hb=>⟨hf _ (hg b hb).1,(hg b hb).2⟩,Ows.grow ho ts (fun _ z=>z) h3⟩⟩
 | .list ts,_,_,_,_,hf,h=>by
  obtain ⟨a,vs,e,⟨h0,h1,h2⟩ | ⟨h0,h1,h2,G,hg,h3⟩⟩:=h
  ·exact ⟨a,vs,e,.inl ⟨h0,h1.sub ho,Ows.grow ho ts hf h2⟩⟩
  ·exact ⟨a,vs,e,.inr ⟨h0,h1,hf _ h2,G,fun b hb=>⟨hf _ (hg b hb).1,(hg b hb).2⟩,Ows.grow ho ts (fun _ z=>z) h3⟩⟩
 | .dict ts,_,_,_,_,hf,h=>by
  obtain ⟨a,vs,e,⟨h0,h1,hn,h2⟩ | ⟨h0,h1,h2,G,hg,h3⟩ | ⟨h0,ht⟩⟩:=h
  ·exact ⟨a,vs,e,.inl ⟨h0,h1,fun z=>hn (ho _ z),Owd.grow ho ts hf h2⟩⟩
  ·exact ⟨a,vs,e,.inr (.inl ⟨h0,h1,hf _ h2,G,fun b hb=>⟨hf _ (hg b hb).1,(hg b hb).2⟩,Owd.grow ho ts (fun _ z=>z) h3⟩)⟩
  ·exact ⟨a,vs,e,.inr (.inr ⟨h0,ht.to fun o h2 hn=>⟨h2,fun z=>hn (ho _ z)⟩⟩)⟩
theorem Ows.grow (ho:∀ a,O' a->O a):∀ (ts:List D) {d:Nat} {vs:List V} {F F':AS},(∀ b,F b->F' b)->Ows K O H ts d vs F->Ows K O' H ts d vs F'
 | [],_,_,_,_,_,h=>h
 | t :: ts,_,_,_,_,hf,h=>by
  obtain ⟨v,r,F1,F2,e,h1,h2,h3,h4,h5⟩:=h;exact ⟨v,r,F1,F2,e,fun b z=>hf _ (h1 b z),fun b z=>hf _ (h2 b z),h3,Ow.grow ho t (fun _ z=>z) h4,Ows.grow ho ts (fun _ z=>z) h5⟩
theorem Owd.grow (ho:∀ a,O' a->O a):∀ (ts:List (D × D)) {d:Nat} {vs:List (Key × V)} {F F':AS},(∀ b,F b->F' b)->Owd K O H ts d vs F->Owd K O' H ts d vs F'
 | [],_,_,_,_,_,h=>h
 | (k,t) :: ts,_,_,_,_,hf,h=>by
  obtain ⟨q,v,r,F1,F2,e,e2,h1,h2,h3,h4,h5⟩:=h;exact ⟨q,v,r,F1,F2,e,e2,fun b z=>hf _ (h1 b z),fun b z=>hf _ (h2 b z),h3,Ow.grow ho t (fun _ z=>z) h4,Owd.grow ho ts (fun _ z=>z) h5⟩
end
mutual
theorem Ow.any0:∀ (t:D) {v:V} {F F':AS},Ow K O H t 0 v F->Ow K O H t 0 v F'
 | .none,_,_,_,h=>h
 | .bool _,_,_,_,h=>h
 | .int _,_,_,_,h=>h
 | .str _,_,_,_,h=>h
 | .tuple ts,_,_,_,h=>by
  obtain ⟨a,vs,e,⟨h0,h1,h2⟩ | ⟨h0,_⟩⟩:=h
  ·exact ⟨a,vs,e,.inl ⟨rfl,h1,Ows.any0 ts h2⟩⟩
  ·exact absurd rfl h0
 | .list ts,_,_,_,h=>by
  obtain ⟨a,vs,e,⟨h0,h1,h2⟩ | ⟨h0,_⟩⟩:=h
  ·exact ⟨a,vs,e,.inl ⟨rfl,h1,Ows.any0 ts h2⟩⟩
  ·exact absurd rfl h0
 | .dict ts,_,_,_,h=>by
  obtain ⟨a,vs,e,⟨h0,h1,hn,h2⟩ | ⟨h0,_⟩ | ⟨_,ht⟩⟩:=h
  ·exact ⟨a,vs,e,.inl ⟨rfl,h1,hn,Owd.any0 ts h2⟩⟩
  ·exact absurd rfl h0
  ·exact ⟨a,vs,e,.inr (.inr ⟨rfl,ht⟩)⟩
theorem Ows.any0:∀ (ts:List D) {vs:List V} {F F':AS},Ows K O H ts 0 vs F->Ows K O H ts 0 vs F'
 | [],_,_,_,h=>h
 | t :: ts,_,_,_,h=>by
  obtain ⟨v,r,F1,F2,e,_,_,_,h4,h5⟩:=h;exact ⟨v,r,fun _=>False,fun _=>False,e,fun _ z=>z.elim,fun _ z=>z.elim,fun _ z=>z.elim,Ow.any0 t h4,Ows.any0 ts h5⟩
theorem Owd.any0:∀ (ts:List (D × D)) {vs:List (Key × V)} {F F':AS},Owd K O H ts 0 vs F->Owd K O H ts 0 vs F'
 | [],_,_,_,h=>h
 | (k,t) :: ts,_,_,_,h=>by
  obtain ⟨q,v,r,F1,F2,e,e2,_,_,_,h4,h5⟩:=h;exact ⟨q,v,r,fun _=>False,fun _=>False,e,e2,fun _ z=>z.elim,fun _ z=>z.elim,fun _ z=>z.elim,Ow.any0 t h4,Owd.any0 ts h5⟩
end
def Ow.fz {t:D} {d:Nat} {v:V} {F F2:AS} (ho:∀ a,O' a->O a) (hn:∀ a,F a->¬ O' a) (h:Ow K O H t d v F):Ow K O' H t 0 v F2:=by
 obtain ⟨F',s1,s2⟩:=Ow.cut t (Nat.zero_le d) h;exact Ow.any0 t (s2 O' ho fun a z1 z2=>absurd z2 (hn a z1))
end
def U (A B:AS):AS:=fun a=>A a\/B a
def Own (R:Nat->AS) (Ox:AS):AS:=fun a=>(∃ i,R i a)\/Ox a
def dg {A B:AS} (h:∀ a,A a↔B a):A=B:=funext fun a=>propext (h a)
structure EnvOk (K:PySem.W.Frag) (ds:List Nat) (Ox:AS) (H:Hp) (σ:St) (en:En) (R:Nat->AS):Prop where
 at_:∀ (i:Nat) (t:D),en[i]?=some (some t)->∃ v d,σ[i]?=some (some v)/\ds[i]?=some d/\Ow K (Own R Ox) H t d v (R i)
 dj:∀ i j a,R i a->R j a->i=j
 dx:∀ i a,R i a->¬ Ox a
 dom:∀ a,Own R Ox a->∃ o,H a=some o
 l1:en.length=σ.length
 l2:ds.length=σ.length
structure Post (K:PySem.W.Frag) (p:Bool) (ds':List Nat) (Ox:AS) (σ:St) (H:Hp) (en:En) (R:Nat->AS) (en':En) (H':Hp) (R':Nat->AS) (F:AS):Prop where
 env:EnvOk K ds' (U F Ox) H' σ en' R'
 fx:∀ a,F a->¬ Ox a
 keep:∀ a o,H a=some o->(∀ i,¬ R i a)->H' a=some o
 own:∀ a,(F a\/∃ i,R' i a)->(∃ i,R i a)\/H a=none
 dom:∀ a o,H a=some o->∃ o',H' a=some o'
 pure:p=true->en'=en/\R'=R/\∀ a o,H a=some o->H' a=some o
section
variable {K:PySem.W.Frag} {p p1 p2:Bool} {ds ds1 ds2 ds':List Nat} {Ox Ox':AS} {H H':Hp} {σ:St} {en en' en1 en2:En} {R R':Nat->AS} {d d1 d2:Nat} {t1 t2:D}
def EnvOk.grow (e:EnvOk K ds Ox H σ en R) (hk:∀ a o,H a=some o->H' a=some o) {F:AS} (hf:∀ a,F a->H a=none/\∃ o,H' a=some o):EnvOk K ds (U F Ox) H' σ en R:=by
 have fo:∀ a,F a->¬ Own R Ox a:=fun a z z2=>by
  obtain ⟨o,q⟩:=e.dom a z2;rw [(hf a z).1] at q;cases q
 refine ⟨fun i t h=>?_,e.dj,fun i a h z=>?_,fun a h=>?_,e.l1,e.l2⟩
 ·obtain ⟨v,d,h1,h2,h3⟩:=e.at_ i t h;refine ⟨v,d,h1,h2,Ow.mv (G:=R i) ⟨fun a o q _=>hk a o q,fun a z=>?_⟩ t (fun _ z=>z) h3⟩;rcases z with z | z | z
  ·exact .inl (.inl z)
  ·exact .inr (hf a z).1
  ·exact .inl (.inr z)
 ·rcases z with z | z
  ·exact fo a z (.inl ⟨i,h⟩)
  ·exact e.dx i a h z
 ·rcases h with h | h | h
  ·obtain ⟨o,q⟩:=e.dom a (.inl h);exact ⟨o,hk a o q⟩
  ·exact (hf a h).2
  ·obtain ⟨o,q⟩:=e.dom a (.inr h);exact ⟨o,hk a o q⟩
def EnvOk.fewer (e:EnvOk K ds Ox H σ en R) (h:∀ a,Ox' a->Ox a):EnvOk K ds Ox' H σ en R:=by
 refine ⟨fun i t q=>?_,e.dj,fun i a z1 z2=>e.dx i a z1 (h a z2),fun a z=>e.dom a (z.imp id (h a)),e.l1,e.l2⟩;obtain ⟨v,d,h1,h2,h3⟩:=e.at_ i t q;exact ⟨v,d,h1,h2,Ow.grow (fun a z=>z.imp id (h a)) t (fun _ z=>z) h3⟩
def tF (K:PySem.W.Frag) (p:Bool) (ds ds':List Nat) (d:Nat) (f:En->Option (D × En)):TE:=fun σ H Q =>
 ∃ Ox en R t en',EnvOk K ds Ox H σ en R/\f en=some (t,en')/\∀ v H' R' F,Post K p ds' Ox σ H en R en' H' R' F->Ow K (Own R' (U F Ox)) H' t d v F->Q v H'
def Post.refl (e:EnvOk K ds Ox H σ en R):Post K p ds Ox σ H en R en H R (fun _=>False):=by
 have eq:U (fun _=>False) Ox=Ox:=dg fun a=>⟨fun z=>z.elim (fun z=>z.elim) id,.inr⟩;exact ⟨eq.symm ▸ e,fun _ z=>z.elim,fun _ _ q _=>q,fun a z=>z.elim (fun z=>z.elim) .inl,fun a o q=>⟨o,q⟩,fun _=>⟨rfl,rfl,fun _ _ q=>q⟩⟩
def Post.new (e:EnvOk K ds Ox H σ en R) (hk:∀ a o,H a=some o->H' a=some o) {F:AS} (hf:∀ a,F a->H a=none/\∃ o,H' a=some o):Post K p ds Ox σ H en R en H' R F:=by
 refine ⟨e.grow hk hf,fun a z z2=>?_,fun a o q _=>hk a o q,fun a z=>z.elim (fun z=>.inr (hf a z).1) .inl,fun a o q=>⟨o,hk a o q⟩,fun _=>⟨rfl,rfl,hk⟩⟩;obtain ⟨o,q⟩:=e.dom a (.inr z2);rw [(hf a z).1] at q;cases q
def Post.trans {H1 H2:Hp} {R1 R2:Nat->AS} {F1 F2:AS} (P1:Post K p1 ds1 Ox σ H en R en1 H1 R1 F1) (P2:Post K p2 ds2 (U F1 Ox) σ H1 en1 R1 en2 H2 R2 F2) :
  Post K (p1 && p2) ds2 Ox σ H en R en2 H2 R2 (U F1 F2):=by
 have eq:U F2 (U F1 Ox)=U (U F1 F2) Ox:=dg fun a=>by unfold U; exact ⟨fun z=>by rcases z with z | z | z; exact .inl (.inr z); exact .inl (.inl z); exact .inr z,fun z=>by rcases z with (z | z) | z; exact .inr (.inl z); exact .inl z; exact .inr (.inr z)⟩
 have n1:∀ a,H1 a=none->H a=none:=fun a z=>by
  cases q:H a with
  | none=>rfl
  | some o =>
   obtain ⟨o',q'⟩:=P1.dom a o q;rw [z] at q';cases q'
 refine ⟨eq ▸ P2.env,fun a z z2=>?_,fun a o q n=>?_,fun a z=>?_,fun a o q=>?_,fun hp=>?_⟩
 ·rcases z with z | z
  ·exact P1.fx a z z2
  ·exact P2.fx a z (.inr z2)
 ·refine P2.keep a o (P1.keep a o q n) fun i z=>?_;rcases P1.own a (.inr ⟨i,z⟩) with ⟨j,z⟩ | z
  ·exact n j z
  ·rw [q] at z; cases z
 ·rcases z with (z | z) | z
  ·exact P1.own a (.inl z)
  ·rcases P2.own a (.inl z) with z | z
   ·exact P1.own a (.inr z)
   ·exact .inr (n1 a z)
  ·rcases P2.own a (.inr z) with z | z
   ·exact P1.own a (.inr z)
   ·exact .inr (n1 a z)
 ·obtain ⟨o',q'⟩:=P1.dom a o q;exact P2.dom a o' q'
 ·have h1:p1=true:=by cases p1 <;> simp_all
  have h2:p2=true:=by cases p2 <;> simp_all
  obtain ⟨a1,a2,a3⟩:=P1.pure h1;obtain ⟨b1,b2,b3⟩:=P2.pure h2;exact ⟨b1.trans a1,b2.trans a2,fun a o q=>b3 a o (a3 a o q)⟩
def Ow.over {H1 H2:Hp} {R1 R2:Nat->AS} {F1 F2:AS} {t:D} {v:V} (P1:EnvOk K ds1 (U F1 Ox) H1 σ en1 R1) (P2:Post K p2 ds2 (U F1 Ox) σ H1 en1 R1 en2 H2 R2 F2) (h:Ow K (Own R1 (U F1 Ox)) H1 t d v F1) :
  Ow K (Own R2 (U (U F1 F2) Ox)) H2 t d v F1:=by
 refine Ow.mv (G:=F1) ⟨fun a o q z=>P2.keep a o q fun i zi=>?_,fun a z=>?_⟩ t (fun _ z=>z) h
 ·rcases z with z | z
  ·exact z (.inl ⟨i,zi⟩)
  ·exact P1.dx i a zi (.inl z)
 ·rcases z with z | (z | z) | z
  ·rcases P2.own a (.inr z) with z | z
   ·exact .inl (.inl z)
   ·exact .inr z
  ·exact .inl (.inr (.inl z))
  ·rcases P2.own a (.inl z) with z | z
   ·exact .inl (.inl z)
   ·exact .inr z
  ·exact .inl (.inr (.inr z))
def jw {F1 F2:AS}:U F2 (U F1 Ox)=U (U F1 F2) Ox:=dg fun a=>by unfold U; exact ⟨fun z=>by rcases z with z | z | z; exact .inl (.inr z); exact .inl (.inl z); exact .inr z,fun z=>by rcases z with (z | z) | z; exact .inr (.inl z); exact .inl z; exact .inr (.inr z)⟩
def two {f g:En->Option (D × En)} {Q:V->V->Hp->Prop} (e:EnvOk K ds Ox H σ en R) (h1:f en=some (t1,en1)) (h2:g en1=some (t2,en2))
  (k:∀ x y H2 R2 F1 F2,Post K (p1 && p2) ds2 Ox σ H en R en2 H2 R2 (U F1 F2)->Ow K (Own R2 (U (U F1 F2) Ox)) H2 t1 d1 x F1->Ow K (Own R2 (U (U F1 F2) Ox)) H2 t2 d2 y F2->Q x y H2) :
  tF K p1 ds ds1 d1 f σ H fun x H1=>tF K p2 ds1 ds2 d2 g σ H1 fun y H2=>Q x y H2:=by
 refine ⟨Ox,en,R,t1,en1,e,h1,fun x H1 R1 F1 P1 o1=>?_⟩;refine ⟨U F1 Ox,en1,R1,t2,en2,P1.env,h2,fun y H2 R2 F2 P2 o2=>?_⟩;exact k x y H2 R2 F1 F2 (P1.trans P2) (Ow.over P1.env P2 o1) (jw ▸ o2)
end
abbrev ME:=En->Option (D × En)
abbrev MT:=En->Option (Bool × En)
abbrev MA:=En->Option (List (D ⊕ Nat) × En)
def ae (i:Nat):ME:=fun en=>(en[i]?).join.map fun t=>(t,en)
def eMv (i:Nat):ME:=fun en=>(en[i]?).join.map fun t=>(t,en.set i none)
def eC (t:D):ME:=fun en=>some (t,en)
def e1 (g:D->Option D) (f:ME):ME:=fun en=>(f en).bind fun r=>(g r.1).map fun t=>(t,r.2)
def e2 (g:D->D->Option D) (f1 f2:ME):ME:=fun en=>(f1 en).bind fun r=>(f2 r.2).bind fun q=>(g r.1 q.1).map fun t=>(t,q.2)
def dC (f g:ME):ME:=fun en=>(f en).bind fun r=>match r.1 with
 | .bool true=>g r.2
 | .bool false=>some (.bool false,r.2)
 | _=>none
def eOr (f g:ME):ME:=fun en=>(f en).bind fun r=>match r.1 with
 | .bool true=>some (.bool true,r.2)
 | .bool false=>g r.2
 | _=>none
def jO (f:ME):ME:=fun en=>(f en).bind fun r=>match r.1 with
 | .bool b=>some (.bool (!b),r.2)
 | _=>none
def eIf (c:MT) (f g:ME):ME:=fun en=>(c en).bind fun r=>if r.1 then f r.2 else g r.2
def tV (f:ME):MT:=fun en=>(f en).bind fun r=>match r.1 with
 | .bool b=>some (b,r.2)
 | _=>none
def cI (f g:MT):MT:=fun en=>(f en).bind fun r=>if r.1 then g r.2 else some (false,r.2)
def bOr (f g:MT):MT:=fun en=>(f en).bind fun r=>if r.1 then some (true,r.2) else g r.2
def hW (f:MT):MT:=fun en=>(f en).map fun r=>(!r.1,r.2)
def ai:MA:=fun en=>some ([],en)
def af (f:ME) (r:MA):MA:=fun en=>(f en).bind fun x=>(r x.2).map fun y=>(.inl x.1 :: y.1,y.2)
def aS (i:Nat) (r:MA):MA:=fun en=>(en[i]?).join.bind fun _=>(r en).map fun y=>(.inr i :: y.1,y.2)
def vals:List (D ⊕ Nat)->Option (List D)
 | []=>some []
 | .inl t :: r=>(vals r).map (t :: ·)
 | .inr _ :: _=>none
def eN (g:List D->Option D) (fa:MA):ME:=fun en=>(fa en).bind fun r=>(vals r.1).bind fun ts=>(g ts).map fun t=>(t,r.2)
def NewTo (H H':Hp) (F:AS):Prop:=(∀ a o,H a=some o->H' a=some o)/\∀ a,F a->H a=none/\∃ o,H' a=some o
def NoA:AS:=fun _=>False
def eJ {A:AS}:U NoA A=A:=dg fun a=>⟨fun z=>z.elim (fun z=>z.elim) id,.inr⟩
def rF2 (K:PySem.W.Frag) (g:D->D->Option D) (d:Nat):R2:=fun x y H Q=>∃ (O:AS) (a b t:D),Ow K O H a 0 x NoA/\Ow K O H b 0 y NoA/\(∀ a,O a->∃ o,H a=some o)/\g a b=some t/\∀ v H' F,NewTo H H' F->Ow K (U F O) H' t d v F->Q v H'
def rFn (K:PySem.W.Frag) (g:List D->Option D) (d:Nat):List V->Hp->VK->Prop:=fun xs H Q=>∃ (O:AS) (ts:List D) (t:D),Ows K O H ts 0 xs NoA/\(∀ a,O a->∃ o,H a=some o)/\g ts=some t/\∀ v H' F,NewTo H H' F->Ow K (U F O) H' t d v F->Q v H'
section
variable {K:PySem.W.Frag} {p p1 p2:Bool} {ds ds0 ds1 ds2 ds':List Nat} {Ox Ox':AS} {H H':Hp} {σ:St} {en en' en1 en2:En} {R R':Nat->AS} {d d' d1 d2:Nat} {t t1 t2:D} {Q:VK} {f f1 f2 fa fb:ME}
def kH {F:AS}:U F (Own R Ox)=Own R (U F Ox):=dg fun a=>by
 unfold U Own;exact ⟨fun z=>by rcases z with z | z | z; exact .inr (.inl z); exact .inl z; exact .inr (.inr z),fun z=>by rcases z with z | z | z; exact .inr (.inl z); exact .inl z; exact .inr (.inr z)⟩
def Post.fin {H1:Hp} {F0 F:AS} (P:Post K p ds' Ox σ H en R en' H1 R' F0) (n:NewTo H1 H' F):Post K p ds' Ox σ H en R en' H' R' F:=by
 have e:=P.env.fewer (Ox':=Ox) fun a z=>.inr z;have n1:∀ a,H1 a=none->H a=none:=fun a z=>by
  cases q:H a with
  | none=>rfl
  | some o =>
   obtain ⟨o',q'⟩:=P.dom a o q;rw [z] at q';cases q'
 refine ⟨e.grow n.1 n.2,fun a z z2=>?_,fun a o q nn=>n.1 a o (P.keep a o q nn),fun a z=>?_,fun a o q=>?_,fun hp=>?_⟩
 ·obtain ⟨o,q⟩:=e.dom a (.inr z2);rw [(n.2 a z).1] at q;cases q
 ·rcases z with z | z
  ·exact .inr (n1 a (n.2 a z).1)
  ·exact P.own a (.inr z)
 ·obtain ⟨o',q'⟩:=P.dom a o q;exact ⟨o',n.1 a o' q'⟩
 ·obtain ⟨a1,a2,a3⟩:=P.pure hp;exact ⟨a1,a2,fun a o q=>n.1 a o (a3 a o q)⟩
def Post.less {F F':AS} (P:Post K p ds' Ox σ H en R en' H' R' F) (h:∀ a,F' a->F a):Post K p ds' Ox σ H en R en' H' R' F' :=
 ⟨P.env.fewer fun a z=>z.imp (h a) id,fun a z=>P.fx a (h a z),P.keep,fun a z=>P.own a (z.imp (h a) id),P.dom,P.pure⟩
def Ow.letgo {F F0:AS} {v:V} (P:Post K p ds' Ox σ H en R en' H' R' F0) (hf:∀ a,F a->F0 a) (h:Ow K (Own R' (U F0 Ox)) H' t d v F):Ow K (Own R' Ox) H' t 0 v NoA:=by
 refine Ow.fz (fun a z=>z.imp id .inr) (fun a z z2=>?_) h;rcases z2 with ⟨i,z2⟩ | z2
 ·exact P.env.dx i a z2 (.inl (hf a z))
 ·exact P.fx a (hf a z) z2
def Post.doms {F0:AS} (P:Post K p ds' Ox σ H en R en' H' R' F0):∀ a,Own R' Ox a->∃ o,H' a=some o:=fun a z=>P.env.dom a (z.imp id .inr)
def Da (hd:ds[i]?=some 0) (h:tF K true ds ds 0 (ae i) σ H Q):cR i σ H Q:=by
 obtain ⟨Ox,en,R,t,en',e,hf,k⟩:=h;unfold ae at hf;cases q:en[i]? with
 | none=>rw [q] at hf; cases hf
 | some o =>
  rw [q] at hf;cases o with
  | none=>cases hf
  | some t' =>
   cases hf;obtain ⟨v,d,h1,h2,h3⟩:=e.at_ i t q;rw [hd] at h2;cases h2;exact ⟨v,h1,k v H R NoA (Post.refl e) (by rw [eJ]; exact Ow.any0 t h3)⟩
def DF (hd:ds[i]?=some d) (h:tF K false ds (ds.set i 0) d (eMv i) σ H Q):cR i σ H Q:=by
 obtain ⟨Ox,en,R,t,en',e,hf,k⟩:=h;unfold eMv at hf;cases q:en[i]? with
 | none=>rw [q] at hf; cases hf
 | some o =>
  rw [q] at hf;cases o with
  | none=>cases hf
  | some t' =>
   cases hf;obtain ⟨v,d',h1,h2,h3⟩:=e.at_ i t q;rw [hd] at h2;cases h2;have eq:Own (fun j=>if j=i then NoA else R j) (U (R i) Ox)=Own R Ox:=dg fun a=>by
    unfold Own U;constructor
    ·rintro (⟨j,z⟩ | z | z)
     ·by_cases hj:j=i
      ·rw [if_pos hj] at z; exact z.elim
      ·rw [if_neg hj] at z; exact .inl ⟨j,z⟩
     ·exact .inl ⟨i,z⟩
     ·exact .inr z
    ·rintro (⟨j,z⟩ | z)
     ·by_cases hj:j=i
      ·subst hj; exact .inr (.inl z)
      ·exact .inl ⟨j,by show (if j=i then NoA else R j) a; rw [if_neg hj]; exact z⟩
     ·exact .inr (.inr z)
   refine ⟨v,h1,k v H (fun j=>if j=i then NoA else R j) (R i) ⟨⟨fun j u hu=>?_,fun j j' a z z'=>?_,fun j a z=>?_,fun a z=>e.dom a (eq ▸ z),?_,?_⟩,e.dx i,fun a o q _=>q,fun a z=>?_,fun a o q=>⟨o,q⟩,fun z=>nomatch z⟩ (eq.symm ▸ h3)⟩
   ·by_cases hj:j=i
    ·subst hj;rw [List.getElem?_set_self' ] at hu;rw [q] at hu;cases hu
    ·rw [zaM (Ne.symm hj)] at hu;obtain ⟨v',d',a1,a2,a3⟩:=e.at_ j u hu;refine ⟨v',d',a1,by rw [zaM (Ne.symm hj)]; exact a2,?_⟩;rw [if_neg hj,eq];exact a3
   ·by_cases hj:j=i
    ·rw [if_pos hj] at z; exact z.elim
    ·rw [if_neg hj] at z;by_cases hj':j'=i
     ·rw [if_pos hj'] at z'; exact z'.elim
     ·rw [if_neg hj'] at z'; exact e.dj j j' a z z'
   ·by_cases hj:j=i
    ·rw [if_pos hj] at z; exact z.elim
    ·rw [if_neg hj] at z;rintro (z2 | z2)
     ·exact hj (e.dj j i a z z2)
     ·exact e.dx j a z z2
   ·rw [zaT]; exact e.l1
   ·rw [zaT]; exact e.l2
   ·rcases z with z | ⟨j,z⟩
    ·exact .inl ⟨i,z⟩
    ·by_cases hj:j=i
     ·rw [if_pos hj] at z; exact z.elim
     ·rw [if_neg hj] at z; exact .inl ⟨j,z⟩
def f_c {v:V} (hv:∀ K O H F,Ow K O H t 3 v F) (h:tF K true ds ds 3 (eC t) σ H Q):tC v σ H Q:=by
 obtain ⟨Ox,en,R,t',en',e,hf,k⟩:=h;cases hf;exact k v H R NoA (Post.refl e) (hv _ _ _ _)
def Dc (hd:d'<=d) (h:tF K p ds ds' d' f σ H Q):tF K p ds ds' d f σ H Q:=by
 obtain ⟨Ox,en,R,t,en',e,hf,k⟩:=h;refine ⟨Ox,en,R,t,en',e,hf,fun v H' R' F P o=>?_⟩;obtain ⟨F',s1,s2⟩:=Ow.cut t hd o;refine k v H' R' F' (P.less s1) (s2 _ (fun a z=>z.imp id fun z=>z.imp (s1 a) id) fun a z z2=>?_);rcases z2 with ⟨i,z2⟩ | z2 | z2
 ·exact absurd (.inl z) (P.env.dx i a z2)
 ·exact z2
 ·exact absurd z2 (P.fx a z)
def kC (hp:p'=true->p=true) (h:tF K p' ds ds' d f σ H Q):tF K p ds ds' d f σ H Q:=by
 obtain ⟨Ox,en,R,t,en',e,hf,k⟩:=h;exact ⟨Ox,en,R,t,en',e,hf,fun v H' R' F P o=>k v H' R' F ⟨P.env,P.fx,P.keep,P.own,P.dom,fun z=>P.pure (hp z)⟩ o⟩
def EnvOk.cut (e:EnvOk K ds Ox H σ en R) (hl:ds0.length=ds.length) (hd:∀ (i:Nat) a b,ds0[i]?=some a->ds[i]?=some b->a<=b):∃ R',(∀ i a,R' i a->R i a)/\EnvOk K ds0 Ox H σ en R':=by
 have ch:∀ i,∃ F':AS,(∀ b,F' b->R i b)/\∀ t v d0,en[i]?=some (some t)->σ[i]?=some (some v)->ds0[i]?=some d0->∀ O':AS,(∀ a,O' a->Own R Ox a)->(∀ a,R i a->O' a->F' a)->Ow K O' H t d0 v F':=fun i=>by
  by_cases h:∃ t,en[i]?=some (some t)
  ·obtain ⟨t,ht⟩:=h;obtain ⟨v,d,h1,h2,h3⟩:=e.at_ i t ht;cases q:ds0[i]? with
   | none=>exact ⟨NoA,fun _ z=>z.elim,fun _ _ _ _ _ z=>nomatch z⟩
   | some d0 =>
    obtain ⟨F',s1,s2⟩:=Ow.cut t (hd i d0 d q h2) h3;refine ⟨F',s1,fun t' v' d0' h1' h2' h3' O'=>?_⟩;rw [ht] at h1'; cases h1';rw [h1] at h2'; cases h2';cases h3';exact s2 O'
  ·exact ⟨NoA,fun _ z=>z.elim,fun t _ _ ht=>absurd ⟨t,ht⟩ h⟩
 refine ⟨fun i=>(ch i).choose,fun i=>(ch i).choose_spec.1,fun i t ht=>?_,fun i j a z1 z2=>e.dj i j a ((ch i).choose_spec.1 a z1) ((ch j).choose_spec.1 a z2),fun i a z=>e.dx i a ((ch i).choose_spec.1 a z),fun a z=>e.dom a (z.imp (fun ⟨i,z⟩=>⟨i,(ch i).choose_spec.1 a z⟩) id),e.l1,hl.trans e.l2⟩;obtain ⟨v,d,h1,h2,h3⟩:=e.at_ i t ht;have hi:i < ds0.length:=by rw [hl]; exact (zah.mp h2).1
 refine ⟨v,ds0[i],h1,zak hi,(ch i).choose_spec.2 t v _ ht h1 (zak hi) _ (fun a z=>z.imp (fun ⟨j,z⟩=>⟨j,(ch j).choose_spec.1 a z⟩) id) fun a z z2=>?_⟩;rcases z2 with ⟨j,z2⟩ | z2
 ·have:=e.dj i j a z ((ch j).choose_spec.1 a z2);subst this;exact z2
 ·exact absurd z2 (e.dx i a z)
def leD:List Nat->List Nat->Bool
 | [],[]=>true
 | a :: r,b :: s=>decide (a<=b) && leD r s
 | _,_=>false
def cW:∀ {a b:List Nat},leD a b=true->a.length=b.length/\∀ (i:Nat) x y,a[i]?=some x->b[i]?=some y->x<=y
 | [],[],_=>⟨rfl,fun i x y h=>by simp at h⟩
 | a :: r,b :: s,h=>by
  unfold leD at h;rw [Bool.and_eq_true] at h;obtain ⟨h1,h2⟩:=h;obtain ⟨h3,h4⟩:=cW h2;refine ⟨by rw [zac,zac,h3],fun i x y e1 e2=>?_⟩;cases i with
  | zero=>cases e1; cases e2; exact of_decide_eq_true h1
  | succ i=>exact h4 i x y e1 e2
 | [],_ :: _,h=>nomatch h
 | _ :: _,[],h=>nomatch h
def DG (hd:leD ds0 ds=true) (h:tF K false ds ds' d f σ H Q):tF K p ds0 ds' d f σ H Q:=by
 obtain ⟨Ox,en,R,t,en',e,hf,k⟩:=h;obtain ⟨R1,s1,e1⟩:=e.cut (cW hd).1 (cW hd).2;refine ⟨Ox,en,R1,t,en',e1,hf,fun v H' R' F P o=>k v H' R' F ⟨P.env,P.fx,fun a o q n=>P.keep a o q fun i z=>n i (s1 i a z),fun a z=>(P.own a z).imp (fun ⟨i,z⟩=>⟨i,s1 i a z⟩) id,P.dom,fun z=>nomatch z⟩ o⟩
def kB {g:D->D->Option D} (h:tF K (p1 && p2) ds ds2 d (e2 g f1 f2) σ H Q):tOp (rF2 K g d) (tF K p1 ds ds1 d1 f1) (tF K p2 ds1 ds2 d2 f2) σ H Q:=by
 obtain ⟨Ox,en,R,t,en',e,hf,k⟩:=h;unfold e2 at hf;obtain ⟨⟨t1,en1⟩,h1,hf⟩:=zaa.mp hf;obtain ⟨⟨t2,en2⟩,h2,hf⟩:=zaa.mp hf;obtain ⟨t',h3,hf⟩:=zab.mp hf;cases hf;refine two e h1 h2 fun x y H2 R2 F1 F2 P o1 o2=>?_;exact ⟨Own R2 Ox,t1,t2,t,Ow.letgo P (fun _=>.inl) o1,Ow.letgo P (fun _=>.inr) o2,P.doms,h3,fun v2 H3 F3 n o3=>k v2 H3 R2 F3 (P.fin n) (kH ▸ o3)⟩
def Post.after {H1:Hp} {R1 R2:Nat->AS} {F1 F:AS} (P1:Post K p1 ds1 Ox σ H en R en1 H1 R1 F1) (P2:Post K p2 ds2 Ox σ H1 en1 R1 en2 H' R2 F):Post K (p1 && p2) ds2 Ox σ H en R en2 H' R2 F:=by
 have P1':=P1.less (F':=NoA) fun _ z=>z.elim;have P2':Post K p2 ds2 (U NoA Ox) σ H1 en1 R1 en2 H' R2 F:=by rw [eJ]; exact P2
 have:=P1'.trans P2';rw [eJ] at this;exact this
def Post.env0 {F:AS} (P:Post K p ds' Ox σ H en R en' H' R' F):EnvOk K ds' Ox H' σ en' R':=P.env.fewer fun a z=>.inr z
def Dm (h:tF K (p1 && p2) ds ds1 d (dC f1 f2) σ H Q):wl (tF K p1 ds ds1 d1 f1) (tF K p2 ds1 ds1 d f2) σ H Q:=by
 obtain ⟨Ox,en,R,t,en',e,hf,k⟩:=h;unfold dC at hf;obtain ⟨⟨t1,en1⟩,h1,hf⟩:=zaa.mp hf;refine ⟨Ox,en,R,t1,en1,e,h1,fun v H1 R1 F1 P1 o1=>?_⟩;cases t1 with
 | bool b =>
  have ev:v=.bl b:=o1;refine ⟨b,ev,?_⟩;cases b with
  | true =>
   rw [if_pos rfl];exact ⟨Ox,en1,R1,t,en',P1.env0,hf,fun v2 H2 R2 F2 P2 o2=>k v2 H2 R2 F2 (P1.after P2) o2⟩
  | false =>
   cases hf;rw [if_neg Bool.false_ne_true];refine k _ H1 R1 NoA ?_ rfl
   have:=(P1.less (F':=NoA) fun _ z=>z.elim);exact ⟨this.env,this.fx,this.keep,this.own,this.dom,fun hp=>this.pure (by cases p1 <;> simp_all)⟩
 | _=>cases hf
def DE (h:tF K (p1 && p2) ds ds1 d (eOr f1 f2) σ H Q):Aw (tF K p1 ds ds1 d1 f1) (tF K p2 ds1 ds1 d f2) σ H Q:=by
 obtain ⟨Ox,en,R,t,en',e,hf,k⟩:=h;unfold eOr at hf;obtain ⟨⟨t1,en1⟩,h1,hf⟩:=zaa.mp hf;refine ⟨Ox,en,R,t1,en1,e,h1,fun v H1 R1 F1 P1 o1=>?_⟩;cases t1 with
 | bool b =>
  have ev:v=.bl b:=o1;refine ⟨b,ev,?_⟩;cases b with
  | false =>
   rw [if_neg Bool.false_ne_true];exact ⟨Ox,en1,R1,t,en',P1.env0,hf,fun v2 H2 R2 F2 P2 o2=>k v2 H2 R2 F2 (P1.after P2) o2⟩
  | true =>
   cases hf;rw [if_pos rfl];refine k _ H1 R1 NoA ?_ rfl
   have:=(P1.less (F':=NoA) fun _ z=>z.elim);exact ⟨this.env,this.fx,this.keep,this.own,this.dom,fun hp=>this.pure (by cases p1 <;> simp_all)⟩
 | _=>cases hf
def Dg (h:tF K p ds ds1 3 (jO f) σ H Q):wf (tF K p ds ds1 d1 f) σ H Q:=by
 obtain ⟨Ox,en,R,t,en',e,hf,k⟩:=h;unfold jO at hf;obtain ⟨⟨t1,en1⟩,h1,hf⟩:=zaa.mp hf;refine ⟨Ox,en,R,t1,en1,e,h1,fun v H1 R1 F1 P1 o1=>?_⟩;cases t1 with
 | bool b =>
  cases hf;exact ⟨b,o1,k _ H1 R1 NoA (P1.less fun _ z=>z.elim) rfl⟩
 | _=>cases hf
def tFT (K:PySem.W.Frag) (p:Bool) (ds ds':List Nat) (f:MT):TT:=fun σ H Q =>
 ∃ Ox en R b en',EnvOk K ds Ox H σ en R/\f en=some (b,en')/\∀ H' R',Post K p ds' Ox σ H en R en' H' R' NoA->Q b H'
variable {c c1 c2:MT} {QT:Bool->Hp->Prop}
def lq (h:tFT K p ds ds' (tV f) σ H QT):tB (tF K p ds ds' d f) σ H QT:=by
 obtain ⟨Ox,en,R,b,en',e,hf,k⟩:=h;unfold tV at hf;obtain ⟨⟨t1,en1⟩,h1,hf⟩:=zaa.mp hf;refine ⟨Ox,en,R,t1,en1,e,h1,fun v H1 R1 F1 P1 o1=>?_⟩;cases t1 with
 | bool b =>
  cases hf;exact ⟨_,o1,k H1 R1 (P1.less fun _ z=>z.elim)⟩
 | _=>cases hf
def BC (h:tFT K (p1 && p2) ds ds1 (cI c1 c2) σ H QT):AC (tFT K p1 ds ds1 c1) (tFT K p2 ds1 ds1 c2) σ H QT:=by
 obtain ⟨Ox,en,R,b,en',e,hf,k⟩:=h;unfold cI at hf;obtain ⟨⟨b1,en1⟩,h1,hf⟩:=zaa.mp hf;refine ⟨Ox,en,R,b1,en1,e,h1,fun H1 R1 P1=>?_⟩;cases b1 with
 | true =>
  rw [if_pos rfl];exact ⟨Ox,en1,R1,b,en',P1.env0,hf,fun H2 R2 P2=>k H2 R2 (P1.after P2)⟩
 | false =>
  cases hf;rw [if_neg Bool.false_ne_true];exact k H1 R1 ⟨P1.env,P1.fx,P1.keep,P1.own,P1.dom,fun hp=>P1.pure (by cases p1 <;> simp_all)⟩
def CU (h:tFT K (p1 && p2) ds ds1 (bOr c1 c2) σ H QT):tOr (tFT K p1 ds ds1 c1) (tFT K p2 ds1 ds1 c2) σ H QT:=by
 obtain ⟨Ox,en,R,b,en',e,hf,k⟩:=h;unfold bOr at hf;obtain ⟨⟨b1,en1⟩,h1,hf⟩:=zaa.mp hf;refine ⟨Ox,en,R,b1,en1,e,h1,fun H1 R1 P1=>?_⟩;cases b1 with
 | false =>
  rw [if_neg Bool.false_ne_true];exact ⟨Ox,en1,R1,b,en',P1.env0,hf,fun H2 R2 P2=>k H2 R2 (P1.after P2)⟩
 | true =>
  cases hf;rw [if_pos rfl];exact k H1 R1 ⟨P1.env,P1.fx,P1.keep,P1.own,P1.dom,fun hp=>P1.pure (by cases p1 <;> simp_all)⟩
def BA (h:tFT K p ds ds1 (hW c) σ H QT):Ax (tFT K p ds ds1 c) σ H QT:=by
 obtain ⟨Ox,en,R,b,en',e,hf,k⟩:=h;unfold hW at hf;obtain ⟨⟨b1,en1⟩,h1,hf⟩:=zab.mp hf;cases hf;exact ⟨Ox,en,R,b1,_,e,h1,fun H1 R1 P1=>k H1 R1 P1⟩
def BB (hd:leD ds0 ds=true) (h:tFT K true ds ds c σ H QT):tFT K true ds0 ds0 c σ H QT:=by
 obtain ⟨Ox,en,R,t,en',e,hf,k⟩:=h;obtain ⟨R1,s1,e1⟩:=e.cut (cW hd).1 (cW hd).2;refine ⟨Ox,en,R1,t,en',e1,hf,fun H' R' P=>?_⟩;obtain ⟨a1,a2,a3⟩:=P.pure rfl;subst a1 a2;exact k H' R (Post.new e a3 fun _ z=>z.elim)
end
abbrev Sh:=List (Nat ⊕ Nat)
def OwA (K:PySem.W.Frag) (O:AS) (H:Hp) (σ:St):List (D ⊕ Nat)->Sh->List V->AS->Prop
 | [],ds,vs,_=>ds=[]/\vs=[]
 | .inl t :: as,ds,vs,F=>∃ v r d dr,∃ F1 F2:AS,vs=v :: r/\ds=.inl d :: dr/\(∀ b,F1 b->F b)/\(∀ b,F2 b->F b)/\(∀ b,F1 b->¬ F2 b)/\Ow K O H t d v F1/\OwA K O H σ as dr r F2
 | .inr i :: as,ds,vs,F=>∃ v r dr,vs=v :: r/\ds=.inr i :: dr/\σ[i]?=some (some v)/\OwA K O H σ as dr r F
def tFA (K:PySem.W.Frag) (p:Bool) (ds ds':List Nat) (sh:Sh) (f:MA):TA:=fun σ H Q =>
 ∃ Ox en R as en',EnvOk K ds Ox H σ en R/\f en=some (as,en')/\∀ vs H' R' F,Post K p ds' Ox σ H en R en' H' R' F->OwA K (Own R' (U F Ox)) H' σ as sh vs F->Q vs H'
def aY (fa:MA):ME:=fun en=>(fa en).bind fun r=>(vals r.1).bind fun ts=>if ts.length<=sizeLine then some (.list ts,r.2) else none
def fg (fa:MA):ME:=fun en=>(fa en).bind fun r=>(vals r.1).bind fun ts=>if ts.length<=sizeLine then some (.tuple ts,r.2) else none
section
variable {K:PySem.W.Frag} {p p1 p2:Bool} {ds ds0 ds1 ds2 ds':List Nat} {Ox Ox' O O':AS} {H H':Hp} {σ:St} {en en' en1 en2:En} {R R':Nat->AS} {d d' d1 d2:Nat} {t t1 t2:D} {Q:VK} {f f1 f2:ME} {fa:MA} {sh:Sh} {QA:List V->Hp->Prop} {i:Nat}
def pb (h:tFA K true ds ds [] ai σ H QA):kM σ H QA:=by
 obtain ⟨Ox,en,R,as,en',e,hf,k⟩:=h;cases hf;exact k [] H R NoA (Post.refl e) ⟨rfl,rfl⟩
def jL (h:tFA K (p1 && p2) ds ds2 (.inl d :: sh) (af f fa) σ H QA):ik (tF K p1 ds ds1 d f) (tFA K p2 ds1 ds2 sh fa) σ H QA:=by
 obtain ⟨Ox,en,R,as,en',e,hf,k⟩:=h;unfold af at hf;obtain ⟨⟨t1,en1⟩,h1,hf⟩:=zaa.mp hf;obtain ⟨⟨as2,en2⟩,h2,hf⟩:=zab.mp hf;cases hf;refine ⟨Ox,en,R,t1,en1,e,h1,fun x H1 R1 F1 P1 o1=>?_⟩;refine ⟨U F1 Ox,en1,R1,as2,en2,P1.env,h2,fun vs H2 R2 F2 P2 o2=>?_⟩;refine k (x :: vs) H2 R2 (U F1 F2) (P1.trans P2) ⟨x,vs,d,sh,F1,F2,rfl,rfl,fun _=>.inl,fun _=>.inr,fun b z1 z2=>P2.fx b z2 (.inl z1),Ow.over P1.env P2 o1,?_⟩;rw [<- jw];exact o2
def yd (h:tFA K p ds ds2 (.inr i :: sh) (aS i fa) σ H QA):ik (cR i) (tFA K p ds ds2 sh fa) σ H QA:=by
 obtain ⟨Ox,en,R,as,en',e,hf,k⟩:=h;unfold aS at hf;obtain ⟨t0,h0,hf⟩:=zaa.mp hf;obtain ⟨⟨as2,en2⟩,h2,hf⟩:=zab.mp hf;cases hf;have q:en[i]?=some (some t0):=by
  cases q:en[i]? with
  | none=>rw [q] at h0; cases h0
  | some o=>rw [q] at h0; exact congrArg some h0
 obtain ⟨v,d,h1,_⟩:=e.at_ i t0 q;exact ⟨v,h1,Ox,en,R,as2,en2,e,h2,fun vs H2 R2 F2 P2 o2=>k (v :: vs) H2 R2 F2 P2 ⟨v,vs,sh,rfl,rfl,h1,o2⟩⟩
def bm (c:Nat):Sh->Bool
 | []=>true
 | .inl d :: r=>decide (c<=d) && bm c r
 | .inr _ :: _=>false
def OwA.ows:∀ {as:List (D ⊕ Nat)} {sh:Sh} {vs:List V} {F:AS} {ts:List D} {c:Nat},bm c sh=true->vals as=some ts->OwA K O H σ as sh vs F ->
  ∃ F':AS,(∀ b,F' b->F b)/\∀ O':AS,(∀ a,O' a->O a)->(∀ a,F a->O' a->F' a)->Ows K O' H ts c vs F'
 | [],_,_,F,ts,c,_,hv,h=>by
  cases hv;exact ⟨F,fun _ z=>z,fun _ _ _=>h.2⟩
 | .inl t :: as,_,_,F,ts,c,hs,hv,h=>by
  obtain ⟨v,r,d,dr,F1,F2,e1,e2,s1,s2,s3,h1,h2⟩:=h;subst e1 e2;unfold vals at hv;obtain ⟨ts',hv',e⟩:=zab.mp hv;subst e;unfold bm at hs;rw [Bool.and_eq_true] at hs;obtain ⟨G1,a1,a2⟩:=Ow.cut t (of_decide_eq_true hs.1) h1;obtain ⟨G2,b1,b2⟩:=OwA.ows hs.2 hv' h2;refine ⟨fun b=>G1 b\/G2 b,fun b hb=>hb.elim (fun z=>s1 _ (a1 _ z)) fun z=>s2 _ (b1 _ z),fun O' ho hx=>⟨v,r,G1,G2,rfl,fun b=>.inl,fun b=>.inr,fun b z1 z2=>s3 b (a1 b z1) (b1 b z2),a2 O' ho fun b hb hz=>?_,b2 O' ho fun b hb hz=>?_⟩⟩
  ·exact (hx b (s1 b hb) hz).elim id fun z=>absurd (b1 b z) (s3 b hb)
  ·exact (hx b (s2 b hb) hz).elim (fun z=>absurd hb (s3 b (a1 b z))) id
 | .inr i :: as,_,_,F,ts,c,_,hv,_=>by cases hv
def OwA.len:∀ {as:List (D ⊕ Nat)} {sh:Sh} {vs:List V} {F:AS},OwA K O H σ as sh vs F->vs.length=as.length
 | [],_,_,_,h=>by rw [h.2]; rfl
 | .inl t :: as,_,_,_,h=>by
  obtain ⟨v,r,d,dr,F1,F2,e1,e2,s1,s2,s3,h1,h2⟩:=h;rw [e1,zac,zac,h2.len]
 | .inr i :: as,_,_,_,h=>by
  obtain ⟨v,r,dr,e1,e2,e3,h2⟩:=h;rw [e1,zac,zac,h2.len]
def iI:∀ {as:List (D ⊕ Nat)} {ts:List D},vals as=some ts->ts.length=as.length
 | [],_,h=>by cases h; rfl
 | .inl t :: as,_,h=>by
  unfold vals at h;obtain ⟨ts',hv',e⟩:=zab.mp h;subst e;rw [zac,zac,iI hv']
 | .inr _ :: _,_,h=>by cases h
def lw {g:List D->Option D} (hs:bm 0 sh=true) (h:tF K p ds ds1 d (eN g fa) σ H Q):tCB (rFn K g d) (tFA K p ds ds1 sh fa) σ H Q:=by
 obtain ⟨Ox,en,R,t,en',e,hf,k⟩:=h;unfold eN at hf;obtain ⟨⟨as,en1⟩,h1,hf⟩:=zaa.mp hf;obtain ⟨ts,h2,hf⟩:=zaa.mp hf;obtain ⟨t',h3,hf⟩:=zab.mp hf;cases hf;refine ⟨Ox,en,R,as,en1,e,h1,fun vs H1 R1 F P o=>?_⟩;obtain ⟨F',s1,s2⟩:=OwA.ows hs h2 o;have o2:Ows K (Own R1 Ox) H1 ts 0 vs F':=s2 _ (fun a z=>z.imp id .inr) fun a z z2=>by
  rcases z2 with ⟨i,z2⟩ | z2
  ·exact absurd (.inl z) (P.env.dx i a z2)
  ·exact absurd z2 (P.fx a z)
 exact ⟨Own R1 Ox,ts,t,Ows.any0 ts o2,P.doms,h3,fun v2 H2 F2 n o2=>k v2 H2 R1 F2 (P.fin n) (kH ▸ o2)⟩
def Post.add {H1:Hp} {F G:AS} (P:Post K p ds' Ox σ H en R en' H1 R' F) (n:NewTo H1 H' G):Post K p ds' Ox σ H en R en' H' R' (U F G):=by
 have P2:Post K true ds' (U F Ox) σ H1 en' R' en' H' R' G:=Post.new P.env n.1 n.2
 have:=P.trans P2;rw [Bool.and_true] at this;exact this
def bq {l:Addr} {o:HO} (hl:H l=none):NewTo H (upd H l o) (fun b=>b=l):=by
 refine ⟨fun a u q=>?_,fun a z=>?_⟩
 ·rw [aC]
  ·exact q
  ·intro z;subst z;rw [hl] at q;cases q
 ·subst z;exact ⟨hl,_,aF⟩
def Dh {c:Nat} (hs:bm c sh=true) (hd:dn d=c) (hz:d≠0) (h:tF K p ds ds1 d (aY fa) σ H Q):Ay (tFA K p ds ds1 sh fa) σ H Q:=by
 obtain ⟨Ox,en,R,t,en',e,hf,k⟩:=h;unfold aY at hf;obtain ⟨⟨as,en1⟩,h1,hf⟩:=zaa.mp hf;obtain ⟨ts,h2,hf⟩:=zaa.mp hf;by_cases hlen:ts.length<=sizeLine
 case neg=>rw [if_neg hlen] at hf; cases hf
 rw [if_pos hlen] at hf;cases hf;refine ⟨Ox,en,R,as,en1,e,h1,fun vs H1 R1 F P o=>⟨?_,fun l hl=>?_⟩⟩
 ·rw [o.len,<- iI h2]; exact hlen
 obtain ⟨F',s1,s2⟩:=OwA.ows hs h2 o;have o2:=s2 (Own R1 (U F' Ox)) (fun a z=>z.imp id fun z=>z.imp (s1 a) id) fun a z z2=>by
  rcases z2 with ⟨i,z2⟩ | z2 | z2
  ·exact absurd (.inl z) (P.env.dx i a z2)
  ·exact z2
  ·exact absurd z2 (P.fx a z)
 have P':=(P.less s1).add (bq (o:=.lst vs) hl);have nl:∀ a,F' a->a≠l:=fun a z z2=>by
  subst z2;obtain ⟨o',q⟩:=P.env.dom a (.inr (.inl (s1 a z)));rw [hl] at q;cases q
 refine k (.ref l) (upd H1 l (.lst vs)) R1 _ P' ⟨l,vs,rfl,.inr ⟨hz,aF,.inr rfl,F',fun b z=>⟨.inl z,nl b z⟩,?_⟩⟩;rw [hd];refine Ows.mv (G:=F') ⟨fun a o q _=>(bq (o:=.lst vs) hl).1 a o q,fun a z=>?_⟩ ts (fun _ z=>z) o2;rcases z with z | (z | z) | z
 ·exact .inl (.inl z)
 ·exact .inl (.inr (.inl z))
 ·exact .inr (by rw [show a=l from z]; exact hl)
 ·exact .inl (.inr (.inr z))
def Db {c:Nat} (hs:bm c sh=true) (hd:dn d=c) (h:tF K p ds ds1 d (fg fa) σ H Q):At (tFA K p ds ds1 sh fa) σ H Q:=by
 obtain ⟨Ox,en,R,t,en',e,hf,k⟩:=h;unfold fg at hf;obtain ⟨⟨as,en1⟩,h1,hf⟩:=zaa.mp hf;obtain ⟨ts,h2,hf⟩:=zaa.mp hf;by_cases hlen:ts.length<=sizeLine
 case neg=>rw [if_neg hlen] at hf; cases hf
 rw [if_pos hlen] at hf;cases hf;refine ⟨Ox,en,R,as,en1,e,h1,fun vs H1 R1 F P o=>⟨?_,fun l hl=>?_⟩⟩
 ·rw [o.len,<- iI h2]; exact hlen
 obtain ⟨F',s1,s2⟩:=OwA.ows hs h2 o;have o2:=s2 (Own R1 (U F' Ox)) (fun a z=>z.imp id fun z=>z.imp (s1 a) id) fun a z z2=>by
  rcases z2 with ⟨i,z2⟩ | z2 | z2
  ·exact absurd (.inl z) (P.env.dx i a z2)
  ·exact z2
  ·exact absurd z2 (P.fx a z)
 have nl:∀ a,Own R1 (U F' Ox) a->a≠l:=fun a z z2=>by
  subst z2;obtain ⟨o',q⟩:=P.env.dom a (z.imp id fun z=>z.imp (s1 a) id);rw [hl] at q;cases q
 by_cases hz:d=0
 ·subst hz;have P':=(P.less s1).add (G:=NoA) (H':=upd H1 l (.tup vs)) ⟨(bq (o:=.tup vs) hl).1,fun _ z=>z.elim⟩;have eq:U F' NoA=F':=dg fun a=>⟨fun z=>z.elim id fun z=>z.elim,.inl⟩;rw [eq] at P';refine k (.ref l) (upd H1 l (.tup vs)) R1 _ P' ⟨l,vs,rfl,.inl ⟨rfl,⟨aF,fun z=>nl l z rfl⟩,?_⟩⟩;have hc:c=0:=hd.symm;subst hc;exact Ows.mv (G:=F') ⟨fun a o q _=>(bq (o:=.tup vs) hl).1 a o q,fun a z=>.inl z⟩ ts (fun _ z=>z) o2
 ·have P':=(P.less s1).add (bq (o:=.tup vs) hl);refine k (.ref l) (upd H1 l (.tup vs)) R1 _ P' ⟨l,vs,rfl,.inr ⟨hz,aF,.inr rfl,F',fun b z=>⟨.inl z,nl b (.inr (.inl z))⟩,?_⟩⟩;rw [hd];refine Ows.mv (G:=F') ⟨fun a o q _=>(bq (o:=.tup vs) hl).1 a o q,fun a z=>?_⟩ ts (fun _ z=>z) o2;rcases z with z | (z | z) | z
  ·exact .inl (.inl z)
  ·exact .inl (.inr (.inl z))
  ·exact .inr (by rw [show a=l from z]; exact hl)
  ·exact .inl (.inr (.inr z))
end
def spF (K:PySem.W.Frag) (dps:List Nat) (dr:Nat) (F:List D->Option (D × En)):Sp:=fun vs H Q _ =>
 ∃ Ox ts R r outs,EnvOk K dps Ox H (vs.map some) (ts.map some) R/\F ts=some (r,outs) /\
  ∀ v H' R' Fr,Post K false dps Ox (vs.map some) H (ts.map some) R outs H' R' Fr->Ow K (Own R' (U Fr Ox)) H' r dr v Fr->Q v H'
def cJ:List (D ⊕ Nat)->En->Option (List D)
 | [],_=>some []
 | .inl t :: r,en=>(cJ r en).map (t :: ·)
 | .inr i :: r,en=>(en[i]?).join.bind fun t=>(cJ r en).map (t :: ·)
def wb:List (D ⊕ Nat)->En->En->En
 | .inr i :: r,o :: outs,en=>wb r outs (en.set i o)
 | .inl _ :: r,_ :: outs,en=>wb r outs en
 | _,_,en=>en
def av (F:List D->Option (D × En)) (fa:MA):ME:=fun en=>(fa en).bind fun r=>(cJ r.1 r.2).bind fun ts=>(F ts).map fun q=>(q.1,wb r.1 q.2 r.2)
def fE:Sh->List Nat
 | []=>[]
 | .inl _ :: r=>fE r
 | .inr i :: r=>i :: fE r
def ci (ds:List Nat):Sh->List Nat->Bool
 | [],[]=>true
 | .inl d :: r,q :: s=>decide (d=q) && ci ds r s
 | .inr i :: r,q :: s=>decide (ds[i]?=some q) && (decide (i ∉ fE r) && ci ds r s)
 | _,_=>false
def eA:Sh->Bool
 | []=>true
 | .inl _ :: r=>eA r
 | .inr _ :: _=>false
section
variable {K:PySem.W.Frag} {p p1 p2:Bool} {ds ds0 ds1 ds2 ds' dps:List Nat} {Ox Ox' O O':AS} {H H':Hp} {σ:St} {en en' en1 en2:En} {R R':Nat->AS} {d d' d1 d2 dr:Nat} {t t1 t2:D} {Q:VK} {f f1 f2:ME} {fa:MA} {sh:Sh} {QA:List V->Hp->Prop} {i:Nat}
def OwA.parts:∀ {as:List (D ⊕ Nat)} {sh:Sh} {vs:List V} {F:AS},OwA K O H σ as sh vs F ->
  ∃ Rp:Nat->AS,(∀ (j:Nat) t,as[j]?=some (.inl t)->∃ v d,vs[j]?=some v/\sh[j]?=some (.inl d)/\Ow K O H t d v (Rp j))/\(∀ (j i:Nat),as[j]?=some (.inr i)->∃ v,vs[j]?=some v/\sh[j]?=some (.inr i)/\σ[i]?=some (some v)) /\
   (∀ j a,Rp j a->F a)/\(∀ j j' a,Rp j a->Rp j' a->j=j')
 | [],sh,vs,F,h=>⟨fun _=>NoA,fun j t z=>by simp at z,fun j i z=>by simp at z,fun _ _ z=>z.elim,fun _ _ _ z=>z.elim⟩
 | .inl t :: as,sh,vs,F,h=>by
  obtain ⟨v,r,d,dr,F1,F2,e1,e2,s1,s2,s3,h1,h2⟩:=h;subst e1 e2;obtain ⟨Rp,a1,a2,a3,a4⟩:=h2.parts;refine ⟨fun j=>match j with | 0=>F1 | j+1=>Rp j,fun j u hj=>?_,fun j i hj=>?_,fun j a z=>?_,fun j j' a z z'=>?_⟩
  ·cases j with
   | zero =>
    have:t=u:=by simpa using hj
    subst this;exact ⟨v,d,rfl,rfl,h1⟩
   | succ j=>exact a1 j u (by simpa using hj)
  ·cases j with
   | zero=>simp at hj
   | succ j=>exact a2 j i (by simpa using hj)
  ·cases j with
   | zero=>exact s1 a z
   | succ j=>exact s2 a (a3 j a z)
  ·cases j with
   | zero =>
    cases j' with
    | zero=>rfl
    | succ j'=>exact absurd (a3 j' a z') (s3 a z)
   | succ j =>
    cases j' with
    | zero=>exact absurd (a3 j a z) (s3 a z')
    | succ j'=>rw [a4 j j' a z z']
 | .inr i :: as,sh,vs,F,h=>by
  obtain ⟨v,r,dr,e1,e2,e3,h2⟩:=h;subst e1 e2;obtain ⟨Rp,a1,a2,a3,a4⟩:=h2.parts;refine ⟨fun j=>match j with | 0=>NoA | j+1=>Rp j,fun j u hj=>?_,fun j i' hj=>?_,fun j a z=>?_,fun j j' a z z'=>?_⟩
  ·cases j with
   | zero=>simp at hj
   | succ j=>exact a1 j u (by simpa using hj)
  ·cases j with
   | zero =>
    have:i=i':=by simpa using hj
    subst this;exact ⟨v,rfl,rfl,e3⟩
   | succ j=>exact a2 j i' (by simpa using hj)
  ·cases j with
   | zero=>exact z.elim
   | succ j=>exact a3 j a z
  ·cases j with
   | zero=>exact z.elim
   | succ j =>
    cases j' with
    | zero=>exact z'.elim
    | succ j'=>rw [a4 j j' a z z']
def iU:∀ {as:List (D ⊕ Nat)} {en:En} {ts:List D},cJ as en=some ts->ts.length=as.length/\∀ (j:Nat) t,ts[j]?=some t->as[j]?=some (.inl t)\/∃ i,as[j]?=some (.inr i)/\en[i]?=some (some t)
 | [],_,_,h=>by cases h; exact ⟨rfl,fun j t z=>by simp at z⟩
 | .inl t :: as,en,_,h=>by
  unfold cJ at h;obtain ⟨ts',h',e⟩:=zab.mp h;subst e;obtain ⟨l,g⟩:=iU h';refine ⟨by rw [zac,zac,l],fun j u z=>?_⟩;cases j with
  | zero=>simp at z; subst z; exact .inl rfl
  | succ j=>exact g j u (by simpa using z)
 | .inr i :: as,en,_,h=>by
  unfold cJ at h;obtain ⟨t,ht,h⟩:=zaa.mp h;obtain ⟨ts',h',e⟩:=zab.mp h;subst e;obtain ⟨l,g⟩:=iU h';refine ⟨by rw [zac,zac,l],fun j u z=>?_⟩;cases j with
  | zero =>
   simp at z;subst z;refine .inr ⟨i,rfl,?_⟩;cases q:en[i]? with
   | none=>rw [q] at ht; cases ht
   | some o=>rw [q] at ht; exact congrArg some ht
  | succ j=>exact g j u (by simpa using z)
def hV:∀ {sh:Sh} {dps:List Nat},ci ds sh dps=true->sh.length=dps.length/\(∀ (j d:Nat),sh[j]?=some (.inl d)->dps[j]?=some d)/\(∀ (j i:Nat),sh[j]?=some (.inr i)->∃ q,dps[j]?=some q/\ds[i]?=some q) /\
   (∀ (j j' i:Nat),sh[j]?=some (.inr i)->sh[j']?=some (.inr i)->j=j')
 | [],[],_=>⟨rfl,fun j d z=>by simp at z,fun j d z=>by simp at z,fun j j' d z=>by simp at z⟩
 | .inl d :: r,q :: s,h=>by
  unfold ci at h;rw [Bool.and_eq_true] at h;obtain ⟨h1,h2⟩:=h;have h1':=of_decide_eq_true h1;subst h1';obtain ⟨l,a,b,c⟩:=hV h2;refine ⟨by rw [zac,zac,l],fun j u z=>?_,fun j i z=>?_,fun j j' i z z'=>?_⟩
  ·cases j with
   | zero=>simp at z; subst z; rfl
   | succ j=>exact a j u (by simpa using z)
  ·cases j with
   | zero=>simp at z
   | succ j=>exact b j i (by simpa using z)
  ·cases j with
   | zero=>simp at z
   | succ j =>
    cases j' with
    | zero=>simp at z'
    | succ j'=>rw [c j j' i (by simpa using z) (by simpa using z')]
 | .inr i0 :: r,q :: s,h=>by
  unfold ci at h;rw [Bool.and_eq_true,Bool.and_eq_true] at h;obtain ⟨h1,h2,h3⟩:=h;have h1':=of_decide_eq_true h1;have h2':=of_decide_eq_true h2;obtain ⟨l,a,b,c⟩:=hV h3;have mem:∀ {r:Sh} {j i:Nat},r[j]?=some (.inr i)->i∈fE r:=fun {r}=>by
   induction r with
   | nil=>intro j i z; simp at z
   | cons x r ih =>
    intro j i z;cases j with
    | zero =>
     simp at z;subst z;unfold fE;exact zaq
    | succ j =>
     have:=ih (j:=j) (i:=i) (by simpa using z);cases x with
     | inl _=>exact this
     | inr _=>exact zaj _ this
  refine ⟨by rw [zac,zac,l],fun j u z=>?_,fun j i z=>?_,fun j j' i z z'=>?_⟩
  ·cases j with
   | zero=>simp at z
   | succ j=>exact a j u (by simpa using z)
  ·cases j with
   | zero=>simp at z; subst z; exact ⟨q,rfl,h1'⟩
   | succ j=>exact b j i (by simpa using z)
  ·cases j with
   | zero =>
    simp at z;subst z;cases j' with
    | zero=>rfl
    | succ j'=>exact absurd (mem (by simpa using z')) h2'
   | succ j =>
    cases j' with
    | zero =>
     simp at z';subst z';exact absurd (mem (by simpa using z)) h2'
    | succ j'=>rw [c j j' i (by simpa using z) (by simpa using z')]
 | [],_ :: _,h=>nomatch h
 | .inl _ :: _,[],h=>nomatch h
 | .inr _ :: _,[],h=>nomatch h
def kI:∀ (as:List (D ⊕ Nat)) (outs en:En),(wb as outs en).length=en.length
 | [],_,_=>by unfold wb; rfl
 | .inl _ :: as,[],_=>by unfold wb; rfl
 | .inr _ :: as,[],_=>by unfold wb; rfl
 | .inl _ :: as,o :: outs,en=>by unfold wb; exact kI as outs en
 | .inr i :: as,o :: outs,en=>by unfold wb; rw [kI as outs _,zaT]
def gE:∀ (as:List (D ⊕ Nat)) (outs en:En) (i:Nat),(∀ j:Nat,as[j]?≠some (.inr i))->(wb as outs en)[i]?=en[i]?
 | [],_,_,_,_=>by unfold wb; rfl
 | .inl _ :: as,[],_,_,_=>by unfold wb; rfl
 | .inr _ :: as,[],_,_,_=>by unfold wb; rfl
 | .inl _ :: as,o :: outs,en,i,h=>by unfold wb; exact gE as outs en i fun j=>h (j+1)
 | .inr k :: as,o :: outs,en,i,h=>by
  unfold wb;rw [gE as outs _ i fun j=>h (j+1),zaM];intro e;subst e;exact h 0 rfl
def mR:∀ (as:List (D ⊕ Nat)) (outs en:En) (i j:Nat),as[j]?=some (.inr i)->(∀ j':Nat,as[j']?=some (.inr i)->j'=j)->outs.length=as.length->i < en.length->(wb as outs en)[i]?=outs[j]?
 | [],_,_,_,_,h,_,_,_=>by simp at h
 | .inl _ :: as,[],_,_,_,_,_,h,_=>by simp at h
 | .inr _ :: as,[],_,_,_,_,_,h,_=>by simp at h
 | .inl _ :: as,o :: outs,en,i,j,h,u,l,b=>by
  unfold wb;cases j with
  | zero=>simp at h
  | succ j=>exact mR as outs en i j (by simpa using h) (fun j' z=>by have:=u (j'+1) (by simpa using z); omega) (by simpa using l) b
 | .inr k :: as,o :: outs,en,i,j,h,u,l,b=>by
  unfold wb;cases j with
  | zero =>
   have e:k=i:=by simpa using h
   subst e;rw [gE as outs _ k fun j' z=>by have:=u (j'+1) (by simpa using z); omega];rw [zaN b];rfl
  | succ j=>exact mR as outs _ i j (by simpa using h) (fun j' z=>by have:=u (j'+1) (by simpa using z); omega) (by simpa using l) (by rw [zaT]; exact b)
def OwA.shl:∀ {as:List (D ⊕ Nat)} {sh:Sh} {vs:List V} {F:AS},OwA K O H σ as sh vs F->sh.length=as.length
 | [],_,_,_,h=>by rw [h.1]; rfl
 | .inl t :: as,_,_,_,h=>by
  obtain ⟨v,r,d,dr,F1,F2,e1,e2,s1,s2,s3,h1,h2⟩:=h;rw [e2,zac,zac,h2.shl]
 | .inr i :: as,_,_,_,h=>by
  obtain ⟨v,r,dr,e1,e2,e3,h2⟩:=h;rw [e2,zac,zac,h2.shl]
def jb:∀ {sh:Sh},eA sh=true->∀ (j i:Nat),sh[j]?≠some (.inr i)
 | [],_,j,i,z=>by simp at z
 | .inl _ :: r,h,j,i,z=>by
  cases j with
  | zero=>simp at z
  | succ j=>exact jb (sh:=r) h j i (by simpa using z)
 | .inr _ :: r,h,_,_,_=>nomatch h
def Cb {E:XK} {F:List D->Option (D × En)} (hc:ci ds1 sh dps=true) (h:tF K (p && eA sh) ds ds1 dr (av F fa) σ H Q):mX (spF K dps dr F) [] E (tFA K p ds ds1 sh fa) σ H Q:=by
 obtain ⟨Ox,en,R,t,en',e,hf,k⟩:=h;unfold av at hf;obtain ⟨⟨as,en1⟩,h1,hf⟩:=zaa.mp hf;obtain ⟨ts,h2,hf⟩:=zaa.mp hf;obtain ⟨⟨r,outs⟩,h3,hf⟩:=zab.mp hf;cases hf;refine ⟨Ox,en,R,as,en1,e,h1,fun vs H1 R1 F0 P o=>?_⟩;obtain ⟨cl,c1,c2,c3⟩:=hV hc;obtain ⟨Rp,a1,a2,a3,a4⟩:=o.parts;obtain ⟨tl,tg⟩:=iU h2;have ol:=o.len;have asl:∀ (j i:Nat),as[j]?=some (.inr i)->sh[j]?=some (.inr i):=fun j i z=>(a2 j i z).choose_spec.2.1;have asr:∀ (j i:Nat),sh[j]?=some (.inr i)->as[j]?=some (.inr i):=fun j i z=>by
  cases q:as[j]? with
  | none =>
   have e1:as.length<=j:=List.getElem?_eq_none_iff.mp q;have e2:j < sh.length:=(zah.mp z).1
   have:=o.shl;omega
  | some x =>
   cases x with
   | inl t =>
    obtain ⟨_,_,_,e2,_⟩:=a1 j t q;rw [z] at e2; cases e2
   | inr i' =>
    have:=asl j i' q;rw [z] at this;cases this;rfl
 let Rq:Nat->AS:=fun j=>match sh[j]? with | some (.inr i)=>R1 i | _=>Rp j
 have rq1:∀ j i:Nat,sh[j]?=some (.inr i)->Rq j=R1 i:=fun j i z=>by show (match sh[j]? with | some (.inr i)=>R1 i | _=>Rp j)=R1 i; rw [z]
 have rq2:∀ j:Nat,(∀ i:Nat,sh[j]?≠some (.inr i))->Rq j=Rp j:=fun j z=>by
  show (match sh[j]? with | some (.inr i)=>R1 i | _=>Rp j)=Rp j;split
  ·next i q=>exact absurd q (z i)
  ·rfl
 have rqc:∀ (j:Nat) a,Rq j a->(∃ i,sh[j]?=some (.inr i)/\R1 i a)\/Rp j a:=fun j a z=>by
  by_cases q:∃ i,sh[j]?=some (.inr i)
  ·obtain ⟨i,q⟩:=q;rw [rq1 j i q] at z;exact .inl ⟨i,q,z⟩
  ·rw [rq2 j fun i z=>q ⟨i,z⟩] at z;exact .inr z
 let Oxp:AS:=fun a=>Ox a\/∃ i,R1 i a/\∀ j:Nat,sh[j]?≠some (.inr i);have sub:∀ a,Own Rq Oxp a->Own R1 (U F0 Ox) a:=fun a z=>by
  rcases z with ⟨j,z⟩ | z | ⟨i,z,_⟩
  ·rcases rqc j a z with ⟨i,_,z⟩ | z
   ·exact .inl ⟨i,z⟩
   ·exact .inr (.inl (a3 j a z))
  ·exact .inr (.inr z)
  ·exact .inl ⟨i,z⟩
 have ec:EnvOk K dps Oxp H1 (vs.map some) (ts.map some) Rq:=by
  refine ⟨fun j u hu=>?_,fun j j' a z z'=>?_,fun j a z z2=>?_,fun a z=>P.env.dom a (sub a z),by rw [zad,zad,tl,ol],?_⟩
  ·rw [zao] at hu;obtain ⟨u',hu,eu⟩:=zab.mp hu;cases eu;rcases tg j u hu with q | ⟨i,q,qe⟩
   ·obtain ⟨v,d,b1,b2,b3⟩:=a1 j u q;refine ⟨v,d,by rw [zao,b1]; rfl,c1 j d b2,?_⟩;rw [rq2 j fun i z=>by rw [b2] at z; cases z];exact Ow.grow sub u (fun _ z=>z) b3
   ·obtain ⟨v,b1,b2,b3⟩:=a2 j i q;obtain ⟨v',d,g1,g2,g3⟩:=P.env.at_ i u qe;rw [b3] at g1;cases g1;obtain ⟨qd,q1,q2⟩:=c2 j i b2;rw [g2] at q2;cases q2;refine ⟨v,d,by rw [zao,b1]; rfl,q1,?_⟩;rw [rq1 j i b2];exact Ow.grow sub u (fun _ z=>z) g3
  ·rcases rqc j a z with ⟨i,q,z⟩ | z <;> rcases rqc j' a z' with ⟨i',q',z'⟩ | z'
   ·have:=P.env.dj i i' a z z';subst this;exact c3 j j' i q q'
   ·exact absurd (.inl (a3 j' a z')) (P.env.dx i a z)
   ·exact absurd (.inl (a3 j a z)) (P.env.dx i' a z')
   ·exact a4 j j' a z z'
  ·rcases rqc j a z with ⟨i,q,z⟩ | z
   ·rcases z2 with z2 | ⟨i',z2,n⟩
    ·exact P.env.dx i a z (.inr z2)
    ·have:=P.env.dj i i' a z z2;subst this;exact n j q
   ·rcases z2 with z2 | ⟨i',z2,n⟩
    ·exact P.fx a (a3 j a z) z2
    ·exact P.env.dx i' a z2 (.inl (a3 j a z))
  ·have:=o.shl;rw [zad];omega
 rw [List.append_nil];refine ⟨Oxp,ts,Rq,r,outs,ec,h3,fun v H2 R2 Fr Pc oc=>?_⟩;have outl:outs.length=as.length:=by rw [Pc.env.l1,zad]; exact ol
 classical
 let R3:Nat->AS:=fun i=>if q:∃ j:Nat,sh[j]?=some (.inr i) then R2 q.choose else R1 i
 have r31:∀ (i j:Nat),sh[j]?=some (.inr i)->R3 i=R2 j:=fun i j z=>by
  have q:∃ j:Nat,sh[j]?=some (.inr i):=⟨j,z⟩
  have:q.choose=j:=c3 _ _ i q.choose_spec z;show (if q:∃ j:Nat,sh[j]?=some (.inr i) then R2 q.choose else R1 i)=R2 j;rw [dif_pos q,this]
 have r32:∀ i:Nat,(∀ j:Nat,sh[j]?≠some (.inr i))->R3 i=R1 i:=fun i z=>by
  show (if q:∃ j:Nat,sh[j]?=some (.inr i) then R2 q.choose else R1 i)=R1 i;rw [dif_neg fun ⟨j,q⟩=>z j q]
 have r3c:∀ (i:Nat) a,R3 i a->(∃ j:Nat,sh[j]?=some (.inr i)/\R2 j a)\/((∀ j:Nat,sh[j]?≠some (.inr i))/\R1 i a):=fun i a z=>by
  by_cases q:∃ j:Nat,sh[j]?=some (.inr i)
  ·obtain ⟨j,q⟩:=q;rw [r31 i j q] at z;exact .inl ⟨j,q,z⟩
  ·rw [r32 i fun j z=>q ⟨j,z⟩] at z;exact .inr ⟨fun j z=>q ⟨j,z⟩,z⟩
 have sub3:∀ a,Own R3 (U Fr Ox) a->Own R2 (U Fr Oxp) a:=fun a z=>by
  rcases z with ⟨i,z⟩ | z | z
  ·rcases r3c i a z with ⟨j,_,z⟩ | ⟨n,z⟩
   ·exact .inl ⟨j,z⟩
   ·exact .inr (.inr (.inr ⟨i,z,n⟩))
  ·exact .inr (.inl z)
  ·exact .inr (.inr (.inl z))
 have back:∀ a,(Fr a\/∃ j,R2 j a)->Own R1 (U F0 Ox) a\/H1 a=none:=fun a z=>by
  rcases Pc.own a z with ⟨j,z⟩ | z
  ·exact .inl (sub a (.inl ⟨j,z⟩))
  ·exact .inr z
 have back2:∀ a,(Fr a\/∃ j,R2 j a)->(F0 a\/∃ i,R1 i a)\/H1 a=none:=fun a z=>by
  rcases Pc.own a z with ⟨j,z⟩ | z
  ·rcases rqc j a z with ⟨i,_,z⟩ | z
   ·exact .inl (.inr ⟨i,z⟩)
   ·exact .inl (.inl (a3 j a z))
  ·exact .inr z
 have n1:∀ a,H1 a=none->H a=none:=fun a z=>by
  cases q:H a with
  | none=>rfl
  | some o =>
   obtain ⟨o',q'⟩:=P.dom a o q;rw [z] at q';cases q'
 have rqsub:∀ j a,Rq j a->Own R1 (U F0 Ox) a:=fun j a z=>sub a (.inl ⟨j,z⟩);have env3:EnvOk K ds1 (U Fr Ox) H2 σ (wb as outs en1) R3:=by
  refine ⟨fun i u hu=>?_,fun i i' a z z'=>?_,fun i a z z2=>?_,fun a z=>Pc.env.dom a (sub3 a z),by rw [kI]; exact P.env.l1,P.env.l2⟩
  ·by_cases q:∃ j:Nat,as[j]?=some (.inr i)
   ·obtain ⟨j,q⟩:=q;obtain ⟨v,b1,b2,b3⟩:=a2 j i q;have hil:i < en1.length:=by rw [P.env.l1]; exact (zah.mp b3).1
    rw [mR as outs en1 i j q (fun j' z=>c3 j' j i (asl j' i z) b2) outl hil] at hu;obtain ⟨v',d,g1,g2,g3⟩:=Pc.env.at_ j u hu;rw [zao,b1] at g1;cases g1;obtain ⟨qd,q1,q2⟩:=c2 j i b2;rw [g2] at q1;cases q1;refine ⟨v,d,b3,q2,?_⟩;rw [r31 i j b2];exact Ow.grow sub3 u (fun _ z=>z) g3
   ·rw [gE as outs en1 i fun j z=>q ⟨j,z⟩] at hu;have ns:∀ j:Nat,sh[j]?≠some (.inr i):=fun j z=>q ⟨j,asr j i z⟩;obtain ⟨v,d,g1,g2,g3⟩:=P.env.at_ i u hu;refine ⟨v,d,g1,g2,?_⟩;rw [r32 i ns];refine Ow.mv (G:=R1 i) ⟨fun a o q z=>Pc.keep a o q fun j zj=>?_,fun a z=>?_⟩ u (fun _ z=>z) g3
    ·rcases z with z | z
     ·exact z (rqsub j a zj)
     ·rcases rqc j a zj with ⟨i',q',z'⟩ | z'
      ·have:=P.env.dj i i' a z z';subst this;exact ns j q'
      ·exact P.env.dx i a z (.inl (a3 j a z'))
    ·rcases z with ⟨i',z⟩ | z | z
     ·rcases r3c i' a z with ⟨j,_,z⟩ | ⟨n,z⟩
      ·exact back a (.inr ⟨j,z⟩)
      ·exact .inl (.inl ⟨i',z⟩)
     ·exact back a (.inl z)
     ·exact .inl (.inr (.inr z))
  ·rcases r3c i a z with ⟨j,q,z⟩ | ⟨n,z⟩ <;> rcases r3c i' a z' with ⟨j',q',z'⟩ | ⟨n',z'⟩
   ·have:=Pc.env.dj j j' a z z';subst this;rw [q] at q';cases q';rfl
   ·exact absurd (.inr (.inr ⟨i',z',n'⟩)) (Pc.env.dx j a z)
   ·exact absurd (.inr (.inr ⟨i,z,n⟩)) (Pc.env.dx j' a z')
   ·exact P.env.dj i i' a z z'
  ·rcases r3c i a z with ⟨j,q,z⟩ | ⟨n,z⟩
   ·exact Pc.env.dx j a z (z2.imp id .inl)
   ·rcases z2 with z2 | z2
    ·exact Pc.fx a z2 (.inr ⟨i,z,n⟩)
    ·exact P.env.dx i a z (.inr z2)
 refine k v H2 R3 Fr ⟨env3,fun a z z2=>Pc.fx a z (.inl z2),fun a o q n=>?_,fun a z=>?_,fun a o q=>?_,fun hp=>?_⟩ (Ow.grow sub3 r (fun _ z=>z) oc)
 ·refine Pc.keep a o (P.keep a o q n) fun j z=>?_;have nn:∀ i,¬ R1 i a:=fun i z=>by
   rcases P.own a (.inr ⟨i,z⟩) with ⟨i',z⟩ | z
   ·exact n i' z
   ·rw [q] at z; cases z
  rcases rqc j a z with ⟨i,_,z⟩ | z
  ·exact nn i z
  ·rcases P.own a (.inl (a3 j a z)) with ⟨i',z⟩ | z
   ·exact n i' z
   ·rw [q] at z; cases z
 ·have:(F0 a\/∃ i,R1 i a)\/H1 a=none:=by
   rcases z with z | ⟨i,z⟩
   ·exact back2 a (.inl z)
   ·rcases r3c i a z with ⟨j,_,z⟩ | ⟨n,z⟩
    ·exact back2 a (.inr ⟨j,z⟩)
    ·exact .inl (.inr ⟨i,z⟩)
  rcases this with z | z
  ·exact P.own a z
  ·exact .inr (n1 a z)
 ·obtain ⟨o',q'⟩:=P.dom a o q;exact Pc.dom a o' q'
 ·obtain ⟨hp1,hp2⟩:=(Bool.and_eq_true _ _ ▸ hp:p=true/\eA sh=true);obtain ⟨b1,b2,b3⟩:=P.pure hp1;have ns:=jb hp2;refine ⟨?_,?_,fun a o q=>?_⟩
  ·show wb as outs en1=en;rw [<- b1];refine List.ext_getElem? fun i=>?_;exact gE as outs en1 i fun j z=>ns j i (asl j i z)
  ·rw [<- b2]
   funext i
   exact r32 i fun j=>ns j i
  ·refine Pc.keep a o (b3 a o q) fun j z=>?_;rcases rqc j a z with ⟨i,z,_⟩ | z
   ·exact ns j i z
   ·have zf:=a3 j a z;rcases P.own a (.inl zf) with ⟨i,z2⟩ | z2
    ·rw [<- b2] at z2;exact P.env.dx i a z2 (.inl zf)
    ·rw [q] at z2; cases z2
end
inductive Fl where
 | nx (en:En) | rt (t:D) (en:En) | ct (en:En)
abbrev MS:=En->Option Fl
structure Jd where
 lk:List Nat
 dsr:List Nat
 dr:Nat
 dsl:List Nat
structure PostS (K:PySem.W.Frag) (lk:List Nat) (ds':List Nat) (Ox:AS) (σ:St) (H:Hp) (R:Nat->AS) (σ':St) (en':En) (H':Hp) (R':Nat->AS) (F:AS):Prop where
 env:EnvOk K ds' (U F Ox) H' σ' en' R'
 fx:∀ a,F a->¬ Ox a
 keep:∀ a o,H a=some o->(∀ i,¬ R i a)->H' a=some o
 own:∀ a,(F a\/∃ i,R' i a)->(∃ i,R i a)\/H a=none
 dom:∀ a o,H a=some o->∃ o',H' a=some o'
 lk:∀ j∈lk,σ'[j]?=σ[j]?
def tFS (K:PySem.W.Frag) (J:Jd) (ds ds':List Nat) (f:MS):TS:=fun D σ H =>
 ∃ Ox en R fl,EnvOk K ds Ox H σ en R/\f en=some fl/\match fl with
  | .nx en'=>∀ σ' H' R',PostS K J.lk ds' Ox σ H R σ' en' H' R' NoA->D.nx σ' H'
  | .ct en'=>∀ σ' H' R',PostS K J.lk J.dsl Ox σ H R σ' en' H' R' NoA->D.ct σ' H'
  | .rt t en'=>∀ v σ' H' R' F,PostS K J.lk J.dsr Ox σ H R σ' en' H' R' F->Ow K (Own R' (U F Ox)) H' t J.dr v F->D.rt v H'
def ak (f g:MS):MS:=fun en=>(f en).bind fun fl=>match fl with
 | .nx en1=>g en1
 | .rt t en1=>some (.rt t en1)
 | .ct en1=>some (.ct en1)
def ay (i:Nat) (f:ME):MS:=fun en=>(f en).map fun r=>.nx (r.2.set i (some r.1))
def dz (f:ME):MS:=fun en=>(f en).map fun r=>.nx r.2
def aN (f:ME):MS:=fun en=>(f en).map fun r=>.rt r.1 r.2
def DZ:MS:=fun en=>some (.rt .none en)
def be:MS:=fun en=>some (.nx en)
def D0:MS:=fun en=>some (.ct en)
def DQ:MS:=fun _=>none
def sIf (c:MT) (f g:MS):MS:=fun en=>(c en).bind fun r=>if r.1 then f r.2 else g r.2
section
variable {K:PySem.W.Frag} {p p1 p2:Bool} {J:Jd} {lk:List Nat} {ds ds0 ds1 ds2 ds':List Nat} {Ox Ox' O O':AS} {H H':Hp} {σ σ':St} {en en' en1 en2:En} {R R':Nat->AS} {d d' d1 d2 dr:Nat} {t t1 t2:D} {f f1 f2:ME} {c:MT} {m m1 m2:MS} {i:Nat} {D:Ends}
def PostS.refl (e:EnvOk K ds Ox H σ en R):PostS K lk ds Ox σ H R σ en H R NoA :=
 ⟨by rw [eJ]; exact e,fun _ z=>z.elim,fun _ _ q _=>q,fun a z=>z.elim (fun z=>z.elim) .inl,fun a o q=>⟨o,q⟩,fun _ _=>rfl⟩
def PostS.env0 {F:AS} (P:PostS K lk ds' Ox σ H R σ' en' H' R' F):EnvOk K ds' Ox H' σ' en' R':=P.env.fewer fun a z=>.inr z
def PostS.less {F F':AS} (P:PostS K lk ds' Ox σ H R σ' en' H' R' F) (h:∀ a,F' a->F a):PostS K lk ds' Ox σ H R σ' en' H' R' F' :=
 ⟨P.env.fewer fun a z=>z.imp (h a) id,fun a z=>P.fx a (h a z),P.keep,fun a z=>P.own a (z.imp (h a) id),P.dom,P.lk⟩
def PostS.after {σ1 σ2:St} {H1:Hp} {R1 R2:Nat->AS} {F:AS} (P1:PostS K lk ds1 Ox σ H R σ1 en1 H1 R1 NoA) (P2:PostS K lk ds2 Ox σ1 H1 R1 σ2 en2 H' R2 F):PostS K lk ds2 Ox σ H R σ2 en2 H' R2 F:=by
 have n1:∀ a,H1 a=none->H a=none:=fun a z=>by
  cases q:H a with
  | none=>rfl
  | some o =>
   obtain ⟨o',q'⟩:=P1.dom a o q;rw [z] at q';cases q'
 refine ⟨P2.env,P2.fx,fun a o q n=>?_,fun a z=>?_,fun a o q=>?_,fun j hj=>(P2.lk j hj).trans (P1.lk j hj)⟩
 ·refine P2.keep a o (P1.keep a o q n) fun i z=>?_;rcases P1.own a (.inr ⟨i,z⟩) with ⟨j,z⟩ | z
  ·exact n j z
  ·rw [q] at z; cases z
 ·rcases P2.own a z with z | z
  ·exact P1.own a (.inr z)
  ·exact .inr (n1 a z)
 ·obtain ⟨o',q'⟩:=P1.dom a o q;exact P2.dom a o' q'
def Post.s {F:AS} (P:Post K p ds' Ox σ H en R en' H' R' F):PostS K lk ds' Ox σ H R σ en' H' R' F:=⟨P.env,P.fx,P.keep,P.own,P.dom,fun _ _=>rfl⟩
def PostS.cut {F:AS} (P:PostS K lk ds1 Ox σ H R σ' en' H' R' F) (hd:leD ds2 ds1=true):∃ R2,(∀ i a,R2 i a->R' i a)/\PostS K lk ds2 Ox σ H R σ' en' H' R2 F:=by
 obtain ⟨R2,s1,e2⟩:=P.env.cut (cW hd).1 (cW hd).2;exact ⟨R2,s1,e2,P.fx,P.keep,fun a z=>P.own a (z.imp id fun ⟨i,z⟩=>⟨i,s1 i a z⟩),P.dom,P.lk⟩
def BF (h:tFS K J ds ds be D σ H):wg D σ H:=by
 obtain ⟨Ox,en,R,fl,e,hf,k⟩:=h;cases hf;exact k σ H R (PostS.refl e)
def BD (h:tFS K J ds ds2 (ak m1 m2) D σ H):Au (tFS K J ds ds1 m1) (tFS K J ds1 ds2 m2) D σ H:=by
 obtain ⟨Ox,en,R,fl,e,hf,k⟩:=h;unfold ak at hf;obtain ⟨fl1,h1,hf⟩:=zaa.mp hf;refine ⟨Ox,en,R,fl1,e,h1,?_⟩;cases fl1 with
 | nx en1 =>
  intro σ1 H1 R1 P1;refine ⟨Ox,en1,R1,fl,P1.env0,hf,?_⟩;cases fl with
  | nx en2=>exact fun σ2 H2 R2 P2=>k σ2 H2 R2 (P1.after P2)
  | ct en2=>exact fun σ2 H2 R2 P2=>k σ2 H2 R2 (P1.after P2)
  | rt t en2=>exact fun v σ2 H2 R2 F P2 o=>k v σ2 H2 R2 F (P1.after P2) o
 | ct en1=>cases hf; exact k
 | rt t en1=>cases hf; exact k
def oM (hd:leD ds1 ds2=true) (h:tFS K J ds ds1 m D σ H):tFS K J ds ds2 m D σ H:=by
 obtain ⟨Ox,en,R,fl,e,hf,k⟩:=h;refine ⟨Ox,en,R,fl,e,hf,?_⟩;cases fl with
 | nx en2 =>
  intro σ2 H2 R2 P2;obtain ⟨R3,_,P3⟩:=P2.cut hd;exact k σ2 H2 R3 P3
 | ct en2=>exact k
 | rt t en2=>exact k
def BH (h:tFS K J ds ds1 (dz f) D σ H):wj (tF K p ds ds1 d f) D σ H:=by
 obtain ⟨Ox,en,R,fl,e,hf,k⟩:=h;unfold dz at hf;obtain ⟨⟨t,en1⟩,h1,hf⟩:=zab.mp hf;cases hf;exact ⟨Ox,en,R,t,en1,e,h1,fun v H1 R1 F P o=>k σ H1 R1 (P.s.less fun _ z=>z.elim)⟩
def BE (hd:leD J.dsr ds1=true) (h:tFS K J ds ds' (aN f) D σ H):Av (tF K p ds ds1 J.dr f) D σ H:=by
 obtain ⟨Ox,en,R,fl,e,hf,k⟩:=h;unfold aN at hf;obtain ⟨⟨t,en1⟩,h1,hf⟩:=zab.mp hf;cases hf;refine ⟨Ox,en,R,t,en1,e,h1,fun v H1 R1 F P o=>?_⟩;obtain ⟨R2,s1,P2⟩:=(P.s (lk:=J.lk)).cut hd;exact k v σ H1 R2 F P2 (Ow.grow (fun a z=>z.imp (fun ⟨i,z⟩=>⟨i,s1 i a z⟩) id) t (fun _ z=>z) o)
def CV (h:tFS K J ds ds2 (sIf c m1 m2) D σ H):Az (tFT K p ds ds1 c) (tFS K J ds1 ds2 m1) (tFS K J ds1 ds2 m2) D σ H:=by
 obtain ⟨Ox,en,R,fl,e,hf,k⟩:=h;unfold sIf at hf;obtain ⟨⟨b,en1⟩,h1,hf⟩:=zaa.mp hf;refine ⟨Ox,en,R,b,en1,e,h1,fun H1 R1 P1=>?_⟩;have fin:∀ m,m en1=some fl->tFS K J ds1 ds2 m D σ H1:=fun m hm=>by
  refine ⟨Ox,en1,R1,fl,P1.env0,hm,?_⟩;cases fl with
  | nx en2=>exact fun σ2 H2 R2 P2=>k σ2 H2 R2 (P1.s.after P2)
  | ct en2=>exact fun σ2 H2 R2 P2=>k σ2 H2 R2 (P1.s.after P2)
  | rt t en2=>exact fun v σ2 H2 R2 F P2 o=>k v σ2 H2 R2 F (P1.s.after P2) o
 cases b with
 | true=>exact fin m1 hf
 | false=>exact fin m2 hf
def PostS.store {F:AS} {v:V} (P:Post K p ds1 Ox σ H en R en1 H' R' F) (o:Ow K (Own R' (U F Ox)) H' t d v F) (hi:i < ds1.length) (hl:i ∉ lk) :
  PostS K lk (ds1.set i d) Ox σ H R (σ.set i (some v)) (en1.set i (some t)) H' (fun j=>if j=i then F else R' j) NoA:=by
 have l1:=P.env.l1;have l2:=P.env.l2;have sub:∀ a,Own (fun j=>if j=i then F else R' j) Ox a->Own R' (U F Ox) a:=fun a z=>by
  rcases z with ⟨j,z⟩ | z
  ·by_cases hj:j=i
   ·rw [if_pos hj] at z; exact .inr (.inl z)
   ·rw [if_neg hj] at z; exact .inl ⟨j,z⟩
  ·exact .inr (.inr z)
 refine ⟨?_,fun _ z=>z.elim,P.keep,fun a z=>?_,P.dom,fun j hj=>?_⟩
 ·rw [eJ];refine ⟨fun j u hu=>?_,fun j j' a z z'=>?_,fun j a z z2=>?_,fun a z=>P.env.dom a (sub a z),by rw [zaT,zaT]; exact l1,by rw [zaT,zaT]; exact l2⟩
  ·by_cases hj:j=i
   ·subst hj;rw [zaN (by omega)] at hu;cases hu;refine ⟨v,d,zaN (by omega),zaN hi,?_⟩;rw [if_pos rfl];exact Ow.grow sub t (fun _ z=>z) o
   ·rw [zaM (Ne.symm hj)] at hu;obtain ⟨v',d',g1,g2,g3⟩:=P.env.at_ j u hu;refine ⟨v',d',by rw [zaM (Ne.symm hj)]; exact g1,by rw [zaM (Ne.symm hj)]; exact g2,?_⟩;rw [if_neg hj];exact Ow.grow sub u (fun _ z=>z) g3
  ·by_cases hj:j=i <;> by_cases hj':j'=i
   ·rw [hj,hj']
   ·rw [if_pos hj] at z; rw [if_neg hj'] at z';exact absurd (.inl z) (P.env.dx j' a z')
   ·rw [if_neg hj] at z; rw [if_pos hj'] at z';exact absurd (.inl z') (P.env.dx j a z)
   ·rw [if_neg hj] at z; rw [if_neg hj'] at z';exact P.env.dj j j' a z z'
  ·by_cases hj:j=i
   ·rw [if_pos hj] at z;exact P.fx a z z2
   ·rw [if_neg hj] at z;exact P.env.dx j a z (.inr z2)
 ·rcases z with z | ⟨j,z⟩
  ·exact z.elim
  ·by_cases hj:j=i
   ·rw [if_pos hj] at z; exact P.own a (.inl z)
   ·rw [if_neg hj] at z; exact P.own a (.inr ⟨j,z⟩)
 ·rw [zaM];intro z;subst z;exact hl hj
def oN (hi:i < ds1.length) (hl:i ∉ J.lk) (h:tFS K J ds (ds1.set i d) (ay i f) D σ H):kO (tF K p ds ds1 d f) (iu i) D σ H:=by
 obtain ⟨Ox,en,R,fl,e,hf,k⟩:=h;unfold ay at hf;obtain ⟨⟨t,en1⟩,h1,hf⟩:=zab.mp hf;cases hf;exact ⟨Ox,en,R,t,en1,e,h1,fun v H1 R1 F P o=>k _ H1 _ (PostS.store P o hi hl)⟩
abbrev MG:=PyData->En->Option En
def tFG (K:PySem.W.Frag) (lk:List Nat) (ds ds':List Nat) (g:MG):TG:=fun v σ H Q =>
 ∃ Ox en R t en',EnvOk K ds Ox H σ en R/\Ow K (Own R Ox) H t 0 v NoA/\g t en=some en'/\∀ σ' R',PostS K lk ds' Ox σ H R σ' en' H R' NoA->(∀ j∈lk,R' j=R j)->Q σ' H
def dy (K:PySem.W.Frag) (lk:List Nat) (ds ds':List Nat) (g:List PyData->En->Option En):TGs:=fun vs σ H Q =>
 ∃ Ox en R ts en',EnvOk K ds Ox H σ en R/\Ows K (Own R Ox) H ts 0 vs NoA/\g ts en=some en'/\∀ σ' R',PostS K lk ds' Ox σ H R σ' en' H R' NoA->(∀ j∈lk,R' j=R j)->Q σ' H
def gN (i:Nat):MG:=fun t en=>some (en.set i (some t))
def gs0:List PyData->En->Option En:=fun ts en=>match ts with
 | []=>some en
 | _=>none
def gsC (g:MG) (r:List PyData->En->Option En):List PyData->En->Option En:=fun ts en=>match ts with
 | t :: ts=>(g t en).bind fun en1=>r ts en1
 | []=>none
def gT (g:List PyData->En->Option En):MG:=fun t en=>match t with
 | .tuple ts=>g ts en
 | _=>none
variable {g g1:MG} {gs:List PyData->En->Option En} {v:V} {vs:List V} {QS:St->Hp->Prop}
def xX (hi:i < ds.length) (hl:i ∉ lk) (h:tFG K lk ds (ds.set i 0) (gN i) v σ H QS):iu i v σ H QS:=by
 obtain ⟨Ox,en,R,t,en',e,o,hf,k⟩:=h;cases hf;exact k _ _ (PostS.store (p:=true) (Post.refl e) (by rw [show (fun _=>False:AS)=NoA from rfl,eJ]; exact o) hi hl) fun j hj=>if_neg (fun (z:j=i)=>hl (by rw [<- z]; exact hj))
def xV (h:dy K lk ds ds gs0 vs σ H QS):Bx vs σ H QS:=by
 obtain ⟨Ox,en,R,ts,en',e,o,hf,k⟩:=h;cases ts with
 | nil=>cases hf; exact ⟨o,k σ R (PostS.refl e) fun _ _=>rfl⟩
 | cons t ts=>cases hf
def qz (h:dy K lk ds ds2 (gsC g gs) vs σ H QS):wH (tFG K lk ds ds1 g) (dy K lk ds1 ds2 gs) vs σ H QS:=by
 obtain ⟨Ox,en,R,ts,en',e,o,hf,k⟩:=h;cases ts with
 | nil=>cases hf
 | cons t ts =>
  obtain ⟨en1,h1,h2⟩:=zaa.mp hf;obtain ⟨v,r,F1,F2,e1,s1,s2,s3,o1,o2⟩:=o;refine ⟨v,r,e1,Ox,en,R,t,en1,e,Ow.any0 t o1,h1,fun σ1 R1 P1 r1=>?_⟩;refine ⟨Ox,en1,R1,ts,en',P1.env0,Ows.any0 ts (Ows.mv (G:=NoA) ⟨fun a o q _=>q,fun a z=>?_⟩ ts (F:=NoA) (fun _ z=>z) (Ows.any0 ts o2)),h2,fun σ2 R2 P2 r2=>k σ2 R2 (P1.after P2) fun j hj=>(r2 j hj).trans (r1 j hj)⟩;rcases z with z | z
  ·exact (P1.own a (.inr z)).imp .inl id
  ·exact .inl (.inr z)
def BP {n:Nat} (hn:∀ ts en,(∃ en',gs ts en=some en')->ts.length=n) (h:tFG K lk ds ds1 (gT gs) v σ H QS):Bv K n (dy K lk ds ds1 gs) v σ H QS:=by
 obtain ⟨Ox,en,R,t,en',e,o,hf,k⟩:=h;cases t with
 | tuple ts =>
  have hf':gs ts en=some en':=hf;obtain ⟨a,vs,e1,⟨_,h1,h2⟩ | ⟨z,_⟩⟩:=o
  ·refine ⟨a,vs,e1,h1.sq,?_,Ox,en,R,ts,en',e,h2,hf',k⟩;rw [<- hn ts en ⟨en',hf'⟩]
   have:∀ {ts:List PyData} {vs:List V} {F:AS},Ows K (Own R Ox) H ts 0 vs F->vs.length=ts.length:=fun {ts}=>by
    induction ts with
    | nil=>intro vs F h; rw [show vs=[] from h]; rfl
    | cons t ts ih =>
     intro vs F h;obtain ⟨v,r,F1,F2,e,h1,h2,h3,h4,h5⟩:=h;rw [e,zac,zac,ih h5]
   exact this h2
  ·exact absurd rfl z
 | _=>cases hf
abbrev MI:=En->Option (List PyData × En)
def iV (K:PySem.W.Frag) (O:AS) (H0:Hp) (J:It) (ts:List PyData):Prop :=
 ∀ (i:Nat) (H:Hp) (O1:AS),(∀ a o,H0 a=some o->¬ O a->H a=some o)->(∀ a,O1 a->O a\/H0 a=none)->(∀ a,O1 a->∃ o,H a=some o) ->
  (∀ t,ts[i]?=some t->J.go i H/\∀ x H1,J.yld i H x H1->(∀ a o,H a=some o->H1 a=some o)/\Ow K O1 H1 t 0 x NoA)/\(ts.length=i->J.stop i H)
def tFI (K:PySem.W.Frag) (p:Bool) (ds ds':List Nat) (f:MI):TI:=fun σ H RJ =>
 ∃ Ox en R ts en',EnvOk K ds Ox H σ en R/\f en=some (ts,en')/\∀ J H' R',Post K p ds' Ox σ H en R en' H' R' NoA->iV K (Own R' Ox) H' J ts->RJ J H'
def bS (g:MG) (b:MS):List PyData->En->Option Fl
 | [],en=>some (.nx en)
 | t :: ts,en=>(g t en).bind fun en1=>(b en1).bind fun fl=>match fl with
  | .nx en2=>bS g b ts en2
  | .ct en2=>bS g b ts en2
  | .rt r en2=>some (.rt r en2)
def cF (fi:MI) (g:MG) (b:MS):MS:=fun en=>(fi en).bind fun r=>bS g b r.1 r.2
def BG {fi:MI} (h:tFS K J ds ds1 (cF fi g m) D σ H):pJ (tFI K p ds ds1 fi) (tFG K J.lk ds1 ds2 g) (tFS K { J with dsl:=ds1 } ds2 ds1 m) D σ H:=by
 obtain ⟨Ox,en,R,fl,e,hf,k⟩:=h;unfold cF at hf;obtain ⟨⟨ts,en1⟩,h1,hf⟩:=zaa.mp hf;refine ⟨Ox,en,R,ts,en1,e,h1,fun Jt H1 R1 P1 wk=>?_⟩;refine ⟨fun i n σ' H'=>∃ en' R',n=ts.length - i/\i<=ts.length/\PostS K J.lk ds1 Ox σ H1 R1 σ' en' H' R' NoA/\bS g m (ts.drop i) en'=some fl,⟨_,en1,R1,rfl,Nat.zero_le _,PostS.refl P1.env0,hf⟩,?_⟩;rintro i n σ2 H2 ⟨en2,R2,rfl,hi,P2,hr⟩;obtain ⟨w1,w2⟩:=wk i H2 (Own R2 Ox) (fun a o q z=>P2.keep a o q fun j zj=>z (.inl ⟨j,zj⟩)) (fun a z=>by
  rcases z with z | z
  ·exact (P2.own a (.inr z)).imp .inl id
  ·exact .inl (.inr z)) fun a z=>P2.env0.dom a z
 by_cases hlt:i < ts.length
 ·obtain ⟨go,yl⟩:=w1 ts[i] (zak hlt);have hd:ts.drop i=ts[i] :: ts.drop (i+1):=List.drop_eq_getElem_cons hlt;rw [hd] at hr;obtain ⟨en3,h3,hr⟩:=zaa.mp hr;obtain ⟨fl2,h4,hr⟩:=zaa.mp hr;refine .inr ⟨go,fun σ' H'=>∃ en' R',PostS K J.lk ds1 Ox σ H1 R1 σ' en' H' R' NoA/\bS g m (ts.drop (i+1)) en'=some fl,fun σ' H' ⟨en',R',P',h'⟩=>⟨ts.length - (i+1),by omega,en',R',rfl,hlt,P',h'⟩,fun x H3 y=>?_⟩;obtain ⟨gr,ox⟩:=yl x H3 y;have P3:Post K true ds1 Ox σ2 H2 en2 R2 en2 H3 R2 NoA:=Post.new P2.env0 gr fun _ z=>z.elim;refine ⟨Ox,en2,R2,ts[i],en3,P3.env0,ox,h3,fun σ4 R4 P4 _=>?_⟩;have P4':=(P2.after P3.s).after P4;refine ⟨Ox,en3,R4,fl2,P4.env0,h4,?_⟩;cases fl2 with
  | nx en5=>exact fun σ5 H5 R5 P5=>⟨en5,R5,P4'.after P5,hr⟩
  | ct en5=>exact fun σ5 H5 R5 P5=>⟨en5,R5,P4'.after P5,hr⟩
  | rt t en5 =>
   cases hr;exact fun v σ5 H5 R5 F P5 o=>k v σ5 H5 R5 F (P1.s.after (P4'.after P5)) o
 ·have e2:i=ts.length:=by omega
  subst e2;rw [List.drop_length] at hr;cases hr;exact .inl ⟨w2 rfl,k σ2 H2 R2 (P1.s.after P2)⟩
def whN (c:MT) (b:MS):Nat->En->Option Fl
 | 0,_=>none
 | n+1,en=>(c en).bind fun r=>if r.1 then (b r.2).bind fun fl=>match fl with
   | .nx en2=>whN c b n en2
   | .ct en2=>whN c b n en2
   | .rt t en2=>some (.rt t en2)
  else some (.nx r.2)
open Classical in
noncomputable def bB (c:MT) (b:MS):MS:=fun en=>if h:∃ n fl,whN c b n en=some fl then some h.choose_spec.choose else none
def e8 {b:MS} {fl:Fl} (h:bB c b en=some fl):∃ n,whN c b n en=some fl:=by
 unfold bB at h;split at h
 ·next q =>
  cases h;exact ⟨q.choose,q.choose_spec.choose_spec⟩
 ·cases h
def qp (h:tFS K J ds ds1 (bB c m) D σ H):nP (tFT K p ds ds1 c) (tFS K { J with dsl:=ds } ds1 ds m) D σ H:=by
 obtain ⟨Ox,en,R,fl,e,hf,k⟩:=h;obtain ⟨n0,hn⟩:=e8 hf;refine ⟨fun n σ' H'=>∃ en' R',PostS K J.lk ds Ox σ H R σ' en' H' R' NoA/\whN c m n en'=some fl,⟨n0,en,R,PostS.refl e,hn⟩,?_⟩;rintro n σ2 H2 ⟨en2,R2,P2,hr⟩;cases n with
 | zero=>cases hr
 | succ n =>
  unfold whN at hr;obtain ⟨⟨b,en3⟩,h3,hr⟩:=zaa.mp hr;refine ⟨Ox,en2,R2,b,en3,P2.env0,h3,fun H3 R3 P3=>?_⟩;cases b with
  | false =>
   cases hr;rw [if_neg Bool.false_ne_true];exact k σ2 H3 R3 (P2.after P3.s)
  | true =>
   rw [if_pos rfl] at hr ⊢;obtain ⟨fl2,h4,hr⟩:=zaa.mp hr;refine ⟨fun σ' H'=>∃ en' R',PostS K J.lk ds Ox σ H R σ' en' H' R' NoA/\whN c m n en'=some fl,fun σ' H' q=>⟨n,Nat.lt_succ_self _,q⟩,Ox,en3,R3,fl2,P3.env0,h4,?_⟩;have P3':=P2.after (P3.s (lk:=J.lk));cases fl2 with
   | nx en5=>exact fun σ5 H5 R5 P5=>⟨en5,R5,P3'.after P5,hr⟩
   | ct en5=>exact fun σ5 H5 R5 P5=>⟨en5,R5,P3'.after P5,hr⟩
   | rt t en5 =>
    cases hr;exact fun v σ5 H5 R5 F P5 o=>k v σ5 H5 R5 F (P3'.after P5) o
end
def lcF (g:MG) (c:MT) (f:ME):List D->List D->En->Option (List D × En)
 | [],acc,en=>some (acc,en)
 | t :: ts,acc,en=>(g t en).bind fun en1=>(c en1).bind fun r=>if r.1 then (f r.2).bind fun q=>if acc.length < sizeLine then lcF g c f ts (acc++[q.1]) q.2 else none else lcF g c f ts acc r.2
def bM (js:List (Option Nat)) (en:En):En:=js.map fun j=>match j with
 | some j=>(en[j]?).join
 | none=>none
def wbB:List (Option Nat)->En->En->En
 | some j :: js,o :: r,en=>wbB js r (en.set j o)
 | none :: js,_ :: r,en=>wbB js r en
 | _,_,en=>en
def eLC (q:Bool) (fi:MI) (g:MG) (c:MT) (f:ME) (js:List (Option Nat)):ME:=fun en=>(fi en).bind fun r=>(lcF g c f r.1 [] (bM js r.2)).map fun z=>(.list z.1,if q then r.2 else wbB js z.2 r.2)
def fq (ds:List Nat):List (Option Nat)->List Nat->Bool
 | [],[]=>true
 | some j :: js,d :: r=>decide (ds[j]?=some d) && (decide (some j ∉ js) && fq ds js r)
 | none :: js,_ :: r=>fq ds js r
 | _,_=>false
section
variable {K:PySem.W.Frag} {p p1 p2 q:Bool} {lk:List Nat} {ds ds0 ds1 ds2 ds' dsi:List Nat} {Ox Ox' O O':AS} {H H':Hp} {σ σ':St} {en en' en1 en2:En} {R R':Nat->AS} {d d' d1 d2 dr:Nat} {t t1 t2:D} {Q:VK} {f f1 f2:ME} {c:MT} {g:MG} {fi:MI} {i:Nat} {js:List (Option Nat)}
def iT:∀ {js:List (Option Nat)} {dsi:List Nat},fq ds js dsi=true->dsi.length=js.length/\(∀ (k j:Nat),js[k]?=some (some j)->∃ d,dsi[k]?=some d/\ds[j]?=some d)/\(∀ (k k' j:Nat),js[k]?=some (some j)->js[k']?=some (some j)->k=k')
 | [],[],_=>⟨rfl,fun k j z=>by simp at z,fun k k' j z=>by simp at z⟩
 | some j0 :: js,d :: r,h=>by
  unfold fq at h;rw [Bool.and_eq_true,Bool.and_eq_true] at h;obtain ⟨h1,h2,h3⟩:=h;obtain ⟨a,b,c⟩:=iT h3;have n:=of_decide_eq_true h2;refine ⟨by rw [zac,zac,a],fun k j z=>?_,fun k k' j z z'=>?_⟩
  ·cases k with
   | zero=>simp at z; subst z; exact ⟨d,rfl,of_decide_eq_true h1⟩
   | succ k=>exact b k j (by simpa using z)
  ·cases k with
   | zero =>
    simp at z;subst z;cases k' with
    | zero=>rfl
    | succ k'=>exact absurd (zaV (by simpa using z':js[k']?=some (some j0))) n
   | succ k =>
    cases k' with
    | zero =>
     simp at z';subst z';exact absurd (zaV (by simpa using z:js[k]?=some (some j0))) n
    | succ k'=>rw [c k k' j (by simpa using z) (by simpa using z')]
 | none :: js,d :: r,h=>by
  unfold fq at h;obtain ⟨a,b,c⟩:=iT h;refine ⟨by rw [zac,zac,a],fun k j z=>?_,fun k k' j z z'=>?_⟩
  ·cases k with
   | zero=>simp at z
   | succ k=>exact b k j (by simpa using z)
  ·cases k with
   | zero=>simp at z
   | succ k =>
    cases k' with
    | zero=>simp at z'
    | succ k'=>rw [c k k' j (by simpa using z) (by simpa using z')]
 | [],_ :: _,h=>nomatch h
 | some _ :: _,[],h=>nomatch h
 | none :: _,[],h=>nomatch h
def jB:∀ (js:List (Option Nat)) (r en:En),(wbB js r en).length=en.length
 | [],_,_=>by unfold wbB; rfl
 | some _ :: _,[],_=>by unfold wbB; rfl
 | none :: _,[],_=>by unfold wbB; rfl
 | some j :: js,o :: r,en=>by unfold wbB; rw [jB js r _,zaT]
 | none :: js,o :: r,en=>by unfold wbB; exact jB js r _
def ij:∀ (js:List (Option Nat)) (r en:En) (i:Nat),(∀ k:Nat,js[k]?≠some (some i))->(wbB js r en)[i]?=en[i]?
 | [],_,_,_,_=>by unfold wbB; rfl
 | some _ :: _,[],_,_,_=>by unfold wbB; rfl
 | none :: _,[],_,_,_=>by unfold wbB; rfl
 | none :: js,o :: r,en,i,h=>by unfold wbB; exact ij js r en i fun j=>h (j+1)
 | some k :: js,o :: r,en,i,h=>by
  unfold wbB;rw [ij js r _ i fun j=>h (j+1),zaM];intro e;subst e;exact h 0 rfl
def kJ:∀ (js:List (Option Nat)) (r en:En) (i k:Nat),js[k]?=some (some i)->(∀ k':Nat,js[k']?=some (some i)->k'=k)->r.length=js.length->i < en.length->(wbB js r en)[i]?=r[k]?
 | [],_,_,_,_,h,_,_,_=>by simp at h
 | some _ :: js,[],_,_,_,_,_,h,_=>by simp at h
 | none :: js,[],_,_,_,_,_,h,_=>by simp at h
 | none :: js,o :: r,en,i,k,h,u,l,b=>by
  unfold wbB;cases k with
  | zero=>simp at h
  | succ k=>exact kJ js r en i k (by simpa using h) (fun j' z=>by have:=u (j'+1) (by simpa using z); omega) (by simpa using l) b
 | some j :: js,o :: r,en,i,k,h,u,l,b=>by
  unfold wbB;cases k with
  | zero =>
   have e:j=i:=by simpa using h
   subst e;rw [ij js r _ j fun j' z=>by have:=u (j'+1) (by simpa using z); omega];rw [zaN b];rfl
  | succ k=>exact kJ js r _ i k (by simpa using h) (fun j' z=>by have:=u (j'+1) (by simpa using z); omega) (by simpa using l) (by rw [zaT]; exact b)
def Ows.snoc:∀ {ts:List D} {vs:List V} {F1 F2:AS} {v:V},Ows K O H ts d vs F1->Ow K O H t d v F2->(∀ b,F1 b->¬ F2 b)->Ows K O H (ts++[t]) d (vs++[v]) (U F1 F2)
 | [],vs,F1,F2,v,h,h2,_=>by
  have e:vs=[]:=h;subst e;exact ⟨v,[],F2,NoA,rfl,fun _ z=>.inr z,fun _ z=>z.elim,fun _ _ z=>z.elim,h2,rfl⟩
 | u :: ts,vs,F1,F2,v,h,h2,hd=>by
  obtain ⟨w,r,G1,G2,e,s1,s2,s3,h4,h5⟩:=h;subst e;refine ⟨w,r++[v],G1,U G2 F2,rfl,fun b z=>.inl (s1 b z),fun b z=>z.imp (s2 b) id,fun b z z2=>?_,h4,Ows.snoc h5 h2 fun b z=>hd b (s2 b z)⟩;rcases z2 with z2 | z2
  ·exact s3 b z z2
  ·exact hd b (s1 b z) z2
def Ows.len:∀ {ts:List D} {vs:List V} {F:AS},Ows K O H ts d vs F->vs.length=ts.length
 | [],_,_,h=>by rw [show _=[] from h]; rfl
 | t :: ts,_,_,h=>by
  obtain ⟨v,r,F1,F2,e,h1,h2,h3,h4,h5⟩:=h;rw [e,zac,zac,h5.len]
def fj:List (Option Nat)->Nat->List Nat
 | [],_=>[]
 | some _ :: r,n=>n :: fj r (n+1)
 | none :: r,n=>fj r (n+1)
def fV:∀ {js:List (Option Nat)} {n k j:Nat},js[k]?=some (some j)->n+k∈fj js n
 | [],n,k,j,h=>by simp at h
 | some x :: r,n,k,j,h=>by
  unfold fj;cases k with
  | zero=>exact zaq
  | succ k =>
   refine zaj _ ?_
   have:=fV (n:=n+1) (k:=k) (j:=j) (by simpa using h);rw [show n+(k+1)=n+1+k by omega];exact this
 | none :: r,n,k,j,h=>by
  unfold fj;cases k with
  | zero=>simp at h
  | succ k =>
   have:=fV (n:=n+1) (k:=k) (j:=j) (by simpa using h);rw [show n+(k+1)=n+1+k by omega];exact this
def lD (js:List (Option Nat)) (R1:Nat->AS):Nat->AS:=fun k=>match js[k]? with
 | some (some j)=>R1 j
 | _=>NoA
def yt {R1:Nat->AS} {k j:Nat} (h:js[k]?=some (some j)):lD js R1 k=R1 j:=by unfold lD; rw [h]
def yr {R1:Nat->AS} {k:Nat} {a:Addr} (h:lD js R1 k a):∃ j,js[k]?=some (some j)/\R1 j a:=by
 unfold lD at h;cases q:js[k]? with
 | none=>rw [q] at h; exact h.elim
 | some o =>
  rw [q] at h;cases o with
  | none=>exact h.elim
  | some j=>exact ⟨j,rfl,h⟩
def Ca {cd:Nat} (hc:fq ds1 js dsi=true) (hd:dn d=cd) (hz:d≠0) (hl:lk=fj js 0) (h:tF K (p && q) ds ds1 d (eLC q fi g c f js) σ H Q) :
  tLC (tFI K p ds ds1 fi) (tFG K lk dsi dsi g) (tFT K q dsi dsi c) (tF K q dsi dsi cd f) js σ H Q:=by
 obtain ⟨Ox,en,R,t,en',e,hf,k⟩:=h;unfold eLC at hf;obtain ⟨⟨ts,en1⟩,h1,hf⟩:=zaa.mp hf;obtain ⟨⟨fin,enf⟩,h2,hf⟩:=zab.mp hf;cases hf;obtain ⟨cl,c1,c2⟩:=iT hc;refine ⟨Ox,en,R,ts,en1,e,h1,fun J H1 R1 P1 wk D hD=>?_⟩;have E1:=P1.env0;generalize hRI:lD js R1=RI;have ri1:∀ k j:Nat,js[k]?=some (some j)->RI k=R1 j:=fun k j z=>by rw [<- hRI]; exact yt z
 have ric:∀ (k:Nat) a,RI k a->∃ j,js[k]?=some (some j)/\R1 j a:=fun k a z=>by rw [<- hRI] at z; exact yr z
 let OxI:AS:=fun a=>Ox a\/a=D\/∃ i,R1 i a/\∀ k:Nat,js[k]?≠some (some i);have nD:∀ a,Own R1 Ox a->a≠D:=fun a z z2=>by
  subst z2;obtain ⟨o,q⟩:=E1.dom a z;rw [hD] at q;cases q
 have lI:(bM js en1).length=js.length:=by unfold bM; rw [zad]
 have lS:(cj js σ).length=js.length:=by unfold cj; rw [zad]
 have getE:∀ (k:Nat) t,(bM js en1)[k]?=some (some t)->∃ j,js[k]?=some (some j)/\en1[j]?=some (some t):=fun k t z=>by
  unfold bM at z;rw [zao] at z;obtain ⟨oj,h1,h2⟩:=zab.mp z;cases oj with
  | none=>cases h2
  | some j =>
   refine ⟨j,h1,?_⟩;have h2':(en1[j]?).join=some t:=h2;cases q:en1[j]? with
   | none=>rw [q] at h2'; cases h2'
   | some o=>rw [q] at h2'; exact congrArg some h2'
 have getS:∀ (k j:Nat) v,js[k]?=some (some j)->σ[j]?=some (some v)->(cj js σ)[k]?=some (some v):=fun k j v z1 z2=>by
  unfold cj;rw [zao,z1];show some ((σ[j]?).join)=_;rw [z2];rfl
 have u2:∀ a o,H1 a=some o->upd H1 D (.lst []) a=some o:=fun a o q=>(bq (o:=.lst []) hD).1 a o q;have EI:EnvOk K dsi OxI (upd H1 D (.lst [])) (cj js σ) (bM js en1) RI:=by
  refine ⟨fun k t hk=>?_,fun k k' a z z'=>?_,fun k a z z2=>?_,fun a z=>?_,by rw [lI,lS],by rw [cl,lS]⟩
  ·obtain ⟨j,hj,ht⟩:=getE k t hk;obtain ⟨v,d,g1,g2,g3⟩:=E1.at_ j t ht;obtain ⟨d',q1,q2⟩:=c1 k j hj;rw [g2] at q2;cases q2;refine ⟨v,d,getS k j v hj g1,q1,?_⟩;rw [ri1 k j hj];refine Ow.mv (G:=R1 j) ⟨fun a o q _=>u2 a o q,fun a z=>?_⟩ t (fun _ z=>z) g3;rcases z with ⟨k',z⟩ | z | z | ⟨i,z,_⟩
   ·obtain ⟨j',_,z⟩:=ric k' a z;exact .inl (.inl ⟨j',z⟩)
   ·exact .inl (.inr z)
   ·exact .inr (z ▸ hD)
   ·exact .inl (.inl ⟨i,z⟩)
  ·obtain ⟨j,hj,z⟩:=ric k a z;obtain ⟨j',hj',z'⟩:=ric k' a z'
   have:=E1.dj j j' a z z';subst this;exact c2 k k' j hj hj'
  ·obtain ⟨j,hj,z⟩:=ric k a z;rcases z2 with z2 | z2 | ⟨i,z2,n⟩
   ·exact E1.dx j a z z2
   ·exact nD a (.inl ⟨j,z⟩) z2
   ·have:=E1.dj j i a z z2;subst this;exact n k hj
  ·rcases z with ⟨k,z⟩ | z | z | ⟨i,z,_⟩
   ·obtain ⟨j,hj,z⟩:=ric k a z;obtain ⟨o,q⟩:=E1.dom a (.inl ⟨j,z⟩);exact ⟨o,u2 a o q⟩
   ·obtain ⟨o,q⟩:=E1.dom a (.inr z);exact ⟨o,u2 a o q⟩
   ·subst z;exact ⟨_,aF⟩
   ·obtain ⟨o,q⟩:=E1.dom a (.inl ⟨i,z⟩);exact ⟨o,u2 a o q⟩
 refine ⟨fun i n τ H'=>∃ eni RI' acc vs Fa,n=ts.length - i/\i<=ts.length/\PostS K lk dsi OxI (cj js σ) H1 RI τ eni H' RI' Fa/\H' D=some (.lst vs)/\Ows K (Own RI' (U Fa OxI)) H' acc cd vs Fa/\lcF g c f (ts.drop i) acc eni=some (fin,enf) /\
   (q=true->(∀ k j:Nat,js[k]?=some (some j)->RI' k=RI k)/\(∀ a o,H1 a=some o->H' a=some o)),
  ⟨_,bM js en1,RI,[],[],NoA,rfl,Nat.zero_le _,⟨by rw [eJ]; exact EI,fun _ z=>z.elim,fun a o q _=>u2 a o q,fun a z=>z.elim (fun z=>z.elim) .inl,fun a o q=>⟨o,u2 a o q⟩,fun _ _=>rfl⟩,aF,rfl,h2,fun _=>⟨fun _ _ _=>rfl,u2⟩⟩,?_⟩
 rintro i n τ H2 ⟨eni,RI2,acc,vs,Fa,rfl,hi,P2,hDl,oacc,hr,pu⟩;have fR:∀ a,Own RI2 (U Fa OxI) a->Own R1 Ox a\/H1 a=none:=fun a z=>by
  rcases z with z | z | z | z | ⟨i,z,_⟩
  ·rcases P2.own a (.inr z) with ⟨k,z⟩ | z
   ·obtain ⟨j,_,z⟩:=ric k a z;exact .inl (.inl ⟨j,z⟩)
   ·exact .inr z
  ·rcases P2.own a (.inl z) with ⟨k,z⟩ | z
   ·obtain ⟨j,_,z⟩:=ric k a z;exact .inl (.inl ⟨j,z⟩)
   ·exact .inr z
  ·exact .inl (.inr z)
  ·exact .inr (z ▸ hD)
  ·exact .inl (.inl ⟨i,z⟩)
 obtain ⟨w1,w2⟩:=wk i H2 (Own RI2 (U Fa OxI)) (fun a o q z=>P2.keep a o q fun k zk=>by
  obtain ⟨j,_,zj⟩:=ric k a zk;exact z (.inl ⟨j,zj⟩)) fR fun a z=>P2.env.dom a z
 have DO:OxI D:=.inr (.inl rfl);by_cases hlt:i < ts.length
 ·obtain ⟨go,yl⟩:=w1 ts[i] (zak hlt);rw [List.drop_eq_getElem_cons hlt] at hr;obtain ⟨en3,h3,hr⟩:=zaa.mp hr;obtain ⟨⟨b,en4⟩,h4,hr⟩:=zaa.mp hr;refine .inr ⟨go,fun τ' H'=>∃ eni RI' acc vs Fa,PostS K lk dsi OxI (cj js σ) H1 RI τ' eni H' RI' Fa/\H' D=some (.lst vs)/\Ows K (Own RI' (U Fa OxI)) H' acc cd vs Fa/\lcF g c f (ts.drop (i+1)) acc eni=some (fin,enf)/\(q=true->(∀ k j:Nat,js[k]?=some (some j)->RI' k=RI k)/\(∀ a o,H1 a=some o->H' a=some o)),
   fun τ' H' ⟨eni,RI',acc,vs,Fa,P',x1,x2,x3,x4⟩=>⟨_,by omega,eni,RI',acc,vs,Fa,rfl,hlt,P',x1,x2,x3,x4⟩,fun x H3 y=>?_⟩
  obtain ⟨gr,ox⟩:=yl x H3 y;have P3:Post K true dsi (U Fa OxI) τ H2 eni RI2 eni H3 RI2 NoA:=Post.new P2.env gr fun _ z=>z.elim;have chain:∀ {τ5 en5 H5 RI5 F5},PostS K lk dsi (U Fa OxI) τ H2 RI2 τ5 en5 H5 RI5 F5->PostS K lk dsi OxI (cj js σ) H1 RI τ5 en5 H5 RI5 (U Fa F5):=fun {τ5 en5 H5 RI5 F5} P5=>by
   have n1:∀ a,H2 a=none->H1 a=none:=fun a z=>by
    cases q:H1 a with
    | none=>rfl
    | some o =>
     obtain ⟨o',q'⟩:=P2.dom a o q;rw [z] at q';cases q'
   refine ⟨jw ▸ P5.env,fun a z z2=>?_,fun a o q n=>?_,fun a z=>?_,fun a o q=>?_,fun j hj=>(P5.lk j hj).trans (P2.lk j hj)⟩
   ·rcases z with z | z
    ·exact P2.fx a z z2
    ·exact P5.fx a z (.inr z2)
   ·refine P5.keep a o (P2.keep a o q n) fun i z=>?_;rcases P2.own a (.inr ⟨i,z⟩) with ⟨j,z⟩ | z
    ·exact n j z
    ·rw [q] at z; cases z
   ·rcases z with (z | z) | z
    ·exact P2.own a (.inl z)
    ·rcases P5.own a (.inl z) with z | z
     ·exact P2.own a (.inr z)
     ·exact .inr (n1 a z)
    ·rcases P5.own a (.inr z) with z | z
     ·exact P2.own a (.inr z)
     ·exact .inr (n1 a z)
   ·obtain ⟨o',q'⟩:=P2.dom a o q;exact P5.dom a o' q'
  have carry:∀ {τ5 en5 H5 RI5 F5},PostS K lk dsi (U Fa OxI) τ H2 RI2 τ5 en5 H5 RI5 F5->Ows K (Own RI5 (U (U Fa F5) OxI)) H5 acc cd vs Fa:=fun {τ5 en5 H5 RI5 F5} P5=>by
   refine Ows.mv (G:=Fa) ⟨fun a o q z=>P5.keep a o q fun i zi=>?_,fun a z=>?_⟩ acc (fun _ z=>z) oacc
   ·rcases z with z | z
    ·exact z (.inl ⟨i,zi⟩)
    ·exact P2.env.dx i a zi (.inl z)
   ·rcases z with z | (z | z) | z
    ·exact (P5.own a (.inr z)).imp .inl id
    ·exact .inl (.inr (.inl z))
    ·exact (P5.own a (.inl z)).imp .inl id
    ·exact .inl (.inr (.inr z))
  have UFN:U Fa NoA=Fa:=dg fun a=>⟨fun z=>z.elim id fun z=>z.elim,.inl⟩;refine ⟨U Fa OxI,eni,RI2,ts[i],en3,P3.env0,ox,h3,fun τ4 R4 P4 r4=>?_⟩;have P4':=(P3.s (lk:=lk)).after P4;refine ⟨U Fa OxI,en3,R4,b,en4,P4.env0,h4,fun H5 R5 P5=>?_⟩;have P5':=P4'.after (P5.s (lk:=lk));have pu5:q=true->(∀ k j:Nat,js[k]?=some (some j)->R5 k=RI k)/\(∀ a o,H1 a=some o->H5 a=some o):=fun hq=>by
   obtain ⟨_,b2,b3⟩:=P5.pure hq;obtain ⟨e1,e2⟩:=pu hq;refine ⟨fun k j z=>?_,fun a o qq=>b3 a o (gr a o (e2 a o qq))⟩;rw [b2,r4 k (by rw [hl]; have:=fV (n:=0) z; rw [Nat.zero_add] at this; exact this)];exact e1 k j z
  cases b with
  | false =>
   dsimp only
   rw [if_neg Bool.false_ne_true];have c5:=chain P5';have o5:=carry P5';rw [UFN] at c5 o5;exact ⟨en4,R5,acc,vs,Fa,c5,P5'.keep D _ hDl fun k z=>P2.env.dx k D z (.inr DO),o5,hr,pu5⟩
  | true =>
   dsimp only
   rw [if_pos rfl];obtain ⟨⟨t6,en6⟩,h6,hr⟩:=zaa.mp (show ((f en4).bind fun q=>if acc.length < sizeLine then lcF g c f (ts.drop (i+1)) (acc++[q.1]) q.2 else none)=some (fin,enf) from hr);refine ⟨U Fa OxI,en4,R5,t6,en6,P5.env0,h6,fun v H6 R6 F6 P6 o6=>?_⟩;have P6':=P5'.after (P6.s (lk:=lk));by_cases hlen:acc.length < sizeLine
   case neg=>rw [if_neg hlen] at hr; cases hr
   rw [if_pos hlen] at hr;have hD6:=P6'.keep D _ hDl fun k z=>P2.env.dx k D z (.inr DO);refine ⟨vs,hD6,by rw [oacc.len]; exact hlen,en6,R6,acc++[t6],vs++[v],U Fa F6,?_,aF,?_,hr,?_⟩
   ·have c6:=chain P6';have keepD:∀ a o,H6 a=some o->a≠D->upd H6 D (.lst (vs++[v])) a=some o:=fun a o q n=>by rw [aC n]; exact q
    refine ⟨⟨fun k t hk=>?_,c6.env.dj,c6.env.dx,fun a z=>?_,c6.env.l1,c6.env.l2⟩,c6.fx,fun a o q n=>?_,c6.own,fun a o q=>?_,c6.lk⟩
    ·obtain ⟨v',d',g1,g2,g3⟩:=c6.env.at_ k t hk;refine ⟨v',d',g1,g2,Ow.mv (G:=R6 k) ⟨fun a o q z=>keepD a o q fun zD=>?_,fun a z=>.inl z⟩ t (fun _ z=>z) g3⟩;subst zD;rcases z with z | z
     ·exact z (.inr (.inr DO))
     ·exact c6.env.dx k a z (.inr DO)
    ·by_cases ha:a=D
     ·subst ha; exact ⟨_,aF⟩
     ·obtain ⟨o,q⟩:=c6.env.dom a z;exact ⟨o,keepD a o q ha⟩
    ·refine keepD a o (c6.keep a o q n) fun zD=>?_;subst zD;rw [hD] at q;cases q
    ·obtain ⟨o',q'⟩:=c6.dom a o q;by_cases ha:a=D
     ·subst ha; exact ⟨_,aF⟩
     ·exact ⟨o',keepD a o' q' ha⟩
   ·have o1:=carry P6';have o2:Ow K (Own R6 (U (U Fa F6) OxI)) H6 t6 cd v F6:=jw ▸ o6
    have:=Ows.snoc o1 o2 fun b z1 z2=>P6.fx b z2 (.inl z1);refine Ows.mv (G:=U Fa F6) ⟨fun a o q z=>?_,fun a z=>.inl z⟩ _ (fun _ z=>z) this;rw [aC]
    ·exact q
    ·intro zD;subst zD;rcases z with z | z | z
     ·exact z (.inr (.inr DO))
     ·exact P2.fx a z DO
     ·exact P6.fx a z (.inr DO)
   ·intro hq;obtain ⟨_,b2,b3⟩:=P6.pure hq;obtain ⟨e1,e2⟩:=pu5 hq;refine ⟨fun k j z=>by rw [b2]; exact e1 k j z,fun a o qq=>?_⟩;rw [aC]
    ·exact b3 a o (e2 a o qq)
    ·intro zD;subst zD;rw [hD] at qq;cases qq
 ·have e2:i=ts.length:=by omega
  subst e2;rw [List.drop_length] at hr;obtain ⟨e3,e4⟩:acc=fin/\eni=enf:=by cases hr; exact ⟨rfl,rfl⟩
  subst e3 e4;refine .inl ⟨w2 rfl,?_⟩;have fD:∀ a,Fa a->a≠D:=fun a z z2=>by
   subst z2;exact P2.fx a z DO
  cases hq:q with
  | true =>
   obtain ⟨e1,e2⟩:=pu hq;subst hq;have fn:∀ a,Fa a->H1 a=none:=fun a z=>by
    rcases P2.own a (.inl z) with ⟨k,z2⟩ | z2
    ·obtain ⟨j,hj,z3⟩:=ric k a z2;rw [<- e1 k j hj] at z2;exact absurd (.inl z) (P2.env.dx k a z2)
    ·exact z2
   have nt:NewTo H1 H2 (fun a=>a=D\/Fa a):=⟨e2,fun a z=>by
    rcases z with z | z
    ·subst z;exact ⟨hD,_,hDl⟩
    ·exact ⟨fn a z,P2.env.dom a (.inr (.inl z))⟩⟩
   have PF:=P1.fin nt;rw [Bool.and_true] at k;refine k (.ref D) H2 R1 _ PF ⟨D,vs,rfl,.inr ⟨hz,hDl,.inl rfl,Fa,fun b z=>⟨.inr z,fD b z⟩,?_⟩⟩;rw [hd];refine Ows.grow (fun a z=>?_) _ (fun _ z=>z) oacc;rcases z with ⟨i,z⟩ | (z | z) | z
   ·by_cases hc2:∃ kk:Nat,js[kk]?=some (some i)
    ·obtain ⟨kk,hk⟩:=hc2;refine .inl ⟨kk,?_⟩;rw [e1 kk i hk,ri1 kk i hk];exact z
    ·exact .inr (.inr (.inr (.inr ⟨i,z,fun kk hk=>hc2 ⟨kk,hk⟩⟩)))
   ·exact .inr (.inr (z ▸ DO))
   ·exact .inr (.inl z)
   ·exact .inr (.inr (.inl z))
  | false =>
   subst hq;rw [Bool.and_false] at k
   classical
   let R3:Nat->AS:=fun i=>if hh:∃ kk:Nat,js[kk]?=some (some i) then RI2 hh.choose else R1 i
   have r31:∀ (i kk:Nat),js[kk]?=some (some i)->R3 i=RI2 kk:=fun i kk z=>by
    have hh:∃ kk:Nat,js[kk]?=some (some i):=⟨kk,z⟩
    have:hh.choose=kk:=c2 _ _ i hh.choose_spec z;show (if hh:∃ kk:Nat,js[kk]?=some (some i) then RI2 hh.choose else R1 i)=RI2 kk;rw [dif_pos hh,this]
   have r32:∀ i:Nat,(∀ kk:Nat,js[kk]?≠some (some i))->R3 i=R1 i:=fun i z=>by
    show (if hh:∃ kk:Nat,js[kk]?=some (some i) then RI2 hh.choose else R1 i)=R1 i;rw [dif_neg fun ⟨j,q⟩=>z j q]
   have r3c:∀ (i:Nat) a,R3 i a->(∃ kk:Nat,js[kk]?=some (some i)/\RI2 kk a)\/((∀ kk:Nat,js[kk]?≠some (some i))/\R1 i a):=fun i a z=>by
    by_cases hh:∃ kk:Nat,js[kk]?=some (some i)
    ·obtain ⟨kk,hk⟩:=hh;rw [r31 i kk hk] at z;exact .inl ⟨kk,hk,z⟩
    ·rw [r32 i fun j z=>hh ⟨j,z⟩] at z;exact .inr ⟨fun j z=>hh ⟨j,z⟩,z⟩
   have sub3:∀ a,Own R3 (U (fun a=>a=D\/Fa a) Ox) a->Own RI2 (U Fa OxI) a:=fun a z=>by
    rcases z with ⟨i,z⟩ | (z | z) | z
    ·rcases r3c i a z with ⟨j,_,z⟩ | ⟨n,z⟩
     ·exact .inl ⟨j,z⟩
     ·exact .inr (.inr (.inr (.inr ⟨i,z,n⟩)))
    ·exact .inr (.inr (z ▸ DO))
    ·exact .inr (.inl z)
    ·exact .inr (.inr (.inl z))
   have el:eni.length=js.length:=by rw [P2.env.l1,<- P2.env.l2]; exact cl
   have riO:∀ (kk:Nat) a,RI kk a->Own R1 Ox a:=fun kk a z=>by
    obtain ⟨j,_,z⟩:=ric kk a z;exact .inl ⟨j,z⟩
   have env3:EnvOk K ds1 (U (fun a=>a=D\/Fa a) Ox) H2 σ (wbB js eni en1) R3:=by
    refine ⟨fun i u hu=>?_,fun i i' a z z'=>?_,fun i a z z2=>?_,fun a z=>P2.env.dom a (sub3 a z),by rw [jB]; exact E1.l1,E1.l2⟩
    ·by_cases hh:∃ kk:Nat,js[kk]?=some (some i)
     ·obtain ⟨kk,hk⟩:=hh;obtain ⟨dd,q1,q2⟩:=c1 kk i hk;have hil:i < en1.length:=by rw [E1.l1,<- E1.l2]; exact (zah.mp q2).1
      rw [kJ js eni en1 i kk hk (fun k' z=>c2 k' kk i z hk) el hil] at hu;obtain ⟨v,d',g1,g2,g3⟩:=P2.env.at_ kk u hu;rw [q1] at g2;cases g2;have hlk:=P2.lk kk (by rw [hl]; have:=fV (n:=0) hk; rw [Nat.zero_add] at this; exact this);rw [hlk] at g1;refine ⟨v,dd,?_,q2,?_⟩
      ·unfold cj at g1;rw [zao,hk] at g1;have g1':(σ[i]?).join=some v:=zat g1;cases q3:σ[i]? with
       | none=>rw [q3] at g1'; cases g1'
       | some o=>rw [q3] at g1'; exact congrArg some g1'
      ·rw [r31 i kk hk];exact Ow.grow sub3 u (fun _ z=>z) g3
     ·rw [ij js eni en1 i fun j z=>hh ⟨j,z⟩] at hu;have ns:∀ j:Nat,js[j]?≠some (some i):=fun j z=>hh ⟨j,z⟩;obtain ⟨v,d',g1,g2,g3⟩:=E1.at_ i u hu;refine ⟨v,d',g1,g2,?_⟩;rw [r32 i ns];refine Ow.mv (G:=R1 i) ⟨fun a o q z=>P2.keep a o q fun j zj=>?_,fun a z=>fR a (sub3 a z)⟩ u (fun _ z=>z) g3;obtain ⟨j',hj',zj⟩:=ric j a zj;rcases z with z | z
      ·exact z (.inl ⟨j',zj⟩)
      ·have:=E1.dj i j' a z zj;subst this;exact ns j hj'
    ·rcases r3c i a z with ⟨j,q,z⟩ | ⟨n,z⟩ <;> rcases r3c i' a z' with ⟨j',q',z'⟩ | ⟨n',z'⟩
     ·have:=P2.env.dj j j' a z z';subst this;rw [q] at q';cases q';rfl
     ·exact absurd (.inr (.inr (.inr ⟨i',z',n'⟩))) (P2.env.dx j a z)
     ·exact absurd (.inr (.inr (.inr ⟨i,z,n⟩))) (P2.env.dx j' a z')
     ·exact E1.dj i i' a z z'
    ·rcases r3c i a z with ⟨j,q,z⟩ | ⟨n,z⟩
     ·refine P2.env.dx j a z ?_;rcases z2 with (z2 | z2) | z2
      ·exact .inr (z2 ▸ DO)
      ·exact .inl z2
      ·exact .inr (.inl z2)
     ·rcases z2 with (z2 | z2) | z2
      ·exact nD a (.inl ⟨i,z⟩) z2
      ·exact P2.fx a z2 (.inr (.inr ⟨i,z,n⟩))
      ·exact E1.dx i a z z2
   have n1:∀ a,H1 a=none->H a=none:=fun a z=>by
    cases q:H a with
    | none=>rfl
    | some o =>
     obtain ⟨o',q'⟩:=P1.dom a o q;rw [z] at q';cases q'
   refine k (.ref D) H2 R3 (fun a=>a=D\/Fa a) ⟨env3,fun a z z2=>?_,fun a o q n=>?_,fun a z=>?_,fun a o q=>?_,fun z=>nomatch z⟩ ⟨D,vs,rfl,.inr ⟨hz,hDl,.inl rfl,Fa,fun b z=>⟨.inr z,fD b z⟩,?_⟩⟩
   ·rcases z with z | z
    ·exact nD a (.inr z2) z
    ·exact P2.fx a z (.inl z2)
   ·refine P2.keep a o (P1.keep a o q n) fun kk z=>?_;obtain ⟨j,_,z⟩:=ric kk a z;rcases P1.own a (.inr ⟨j,z⟩) with ⟨i',z⟩ | z
    ·exact n i' z
    ·rw [q] at z; cases z
   ·have h3:(∃ i,R1 i a)\/H1 a=none:=by
     have h4:(Fa a\/∃ kk,RI2 kk a)->(∃ i,R1 i a)\/H1 a=none:=fun z=>by
      rcases P2.own a z with ⟨kk,z⟩ | z
      ·obtain ⟨j,_,z⟩:=ric kk a z;exact .inl ⟨j,z⟩
      ·exact .inr z
     rcases z with (z | z) | ⟨i,z⟩
     ·exact .inr (z ▸ hD)
     ·exact h4 (.inl z)
     ·rcases r3c i a z with ⟨j,_,z⟩ | ⟨n,z⟩
      ·exact h4 (.inr ⟨j,z⟩)
      ·exact .inl ⟨i,z⟩
    rcases h3 with h3 | h3
    ·exact P1.own a (.inr h3)
    ·exact .inr (n1 a h3)
   ·obtain ⟨o',q'⟩:=P1.dom a o q;exact P2.dom a o' q'
   ·rw [hd];exact Ows.grow sub3 _ (fun _ z=>z) oacc
end
def msk:List Nat->En->En
 | d :: ds,o :: en=>(if d=0 then none else o) :: msk ds en
 | _,_=>[]
def fnF (n:Nat) (dps:List Nat) (b:MS):List PyData->Option (PyData × En):=fun ts=>(b (ts.map some++List.replicate n none)).bind fun fl=>match fl with
 | .rt t en=>some (t,msk dps en)
 | .nx en=>some (.none,msk dps en)
 | .ct _=>none
def k6 (dps:List Nat):List Nat:=(List.range dps.length).filter fun j=>dps[j]? != some 0
section
variable {K:PySem.W.Frag} {p p1 p2 q:Bool} {J:Jd} {lk:List Nat} {ds ds0 ds1 ds2 ds' dps:List Nat} {Ox Ox' O O':AS} {H H' H1:Hp} {σ σ':St} {en en' en1 en2:En} {R R' R1:Nat->AS} {d d' d1 d2 dr:Nat} {t t1 t2:PyData} {Q:VK} {f f1 f2:ME} {i:Nat} {v:V} {D:Ends}
def mw:∀ {dps:List Nat} {en:En} {j:Nat} {u:PyData},(msk dps en)[j]?=some (some u)->∃ d,dps[j]?=some d/\d≠0/\en[j]?=some (some u)
 | [],en,j,u,h=>by unfold msk at h; simp at h
 | d :: ds,[],j,u,h=>by unfold msk at h; simp at h
 | d :: ds,o :: en,j,u,h=>by
  unfold msk at h;cases j with
  | zero =>
   by_cases hd:d=0
   ·simp [hd] at h
   ·refine ⟨d,rfl,hd,?_⟩;simpa [hd] using h
  | succ j =>
   have:=mw (dps:=ds) (en:=en) (j:=j) (u:=u) (by simpa using h);simpa using this
def ms:∀ {dps:List Nat} {en:En},dps.length<=en.length->(msk dps en).length=dps.length
 | [],en,_=>by unfold msk; rfl
 | d :: ds,[],h=>by simp at h
 | d :: ds,o :: en,h=>by
  unfold msk;rw [zac,zac,ms (by simpa using h)]
def xR {N:List Str} {vs:List V} {E:XK} {n:Nat} {b:MS} (hn:N.length - dps.length=n) (h:spF K dps dr (fnF n dps b) vs H Q E) :
  tFS K ⟨k6 dps,dps++List.replicate n 0,dr,[]⟩ (dps++List.replicate n 0) (dps++List.replicate n 0) b { nx:=fun _ H'=>Q .non H',rt:=Q } (bW N vs) H:=by
 obtain ⟨Ox,ts,R,r,outs,e,hf,k⟩:=h;have lv:dps.length=vs.length:=by have:=e.l2; rw [zad] at this; exact this
 have lt:ts.length=vs.length:=by have:=e.l1; rw [zad,zad] at this; exact this
 have hs:bW N vs=vs.map some++List.replicate n none:=by unfold bW; rw [<- lv,hn]
 unfold fnF at hf;obtain ⟨fl,h1,hf⟩:=zaa.mp hf;have get0:∀ {α:Type} (xs:List α) (i:Nat) (u:α),(xs.map some++List.replicate n none)[i]?=some (some u)->(xs.map some)[i]?=some (some u)/\i < xs.length:=fun xs i u z=>by
  by_cases hi:i < xs.length
  ·rw [zaQ (by rw [zad]; exact hi)] at z;exact ⟨z,hi⟩
  ·rw [List.getElem?_append_right (by rw [zad]; omega),List.getElem?_replicate] at z;split at z
   ·cases z
   ·cases z
 have e0:EnvOk K (dps++List.replicate n 0) Ox H (bW N vs) (ts.map some++List.replicate n none) R:=by
  rw [hs];refine ⟨fun i u hu=>?_,e.dj,e.dx,e.dom,by simp [lt],by simp [lv]⟩;obtain ⟨hu',hi⟩:=get0 ts i u hu;obtain ⟨v,d,g1,g2,g3⟩:=e.at_ i u hu';refine ⟨v,d,?_,?_,g3⟩
  ·rw [zaQ (by rw [zad]; omega)]; exact g1
  ·rw [zaQ (by omega)]; exact g2
 have back:∀ {σ' en' H' R' F},PostS K (k6 dps) (dps++List.replicate n 0) Ox (bW N vs) H R σ' en' H' R' F->Post K false dps Ox (vs.map some) H (ts.map some) R (msk dps en') H' R' F:=fun {σ' en' H' R' F} P=>by
  have l1:=P.env.l1;have l2:=P.env.l2;rw [zae,zaL] at l2;refine ⟨⟨fun j u hu=>?_,P.env.dj,P.env.dx,P.env.dom,by rw [ms (by omega),zad]; exact lv,by rw [zad]; exact lv⟩,P.fx,P.keep,P.own,P.dom,fun z=>nomatch z⟩;obtain ⟨d,a1,a2,a3⟩:=mw hu;obtain ⟨v,d',g1,g2,g3⟩:=P.env.at_ j u a3;have hj:j < dps.length:=(zah.mp a1).1;have hlk:j∈k6 dps:=by
   unfold k6;rw [List.mem_filter,List.mem_range];refine ⟨hj,?_⟩;rw [a1];simpa using a2
  rw [P.lk j hlk,hs,zaQ (by rw [zad]; omega)] at g1;rw [zaQ hj] at g2;exact ⟨v,d',g1,g2,g3⟩
 refine ⟨Ox,_,R,fl,e0,h1,?_⟩;cases fl with
 | nx en2 =>
  cases hf;exact fun σ2 H2 R2 P2=>k .non H2 R2 NoA (back P2) rfl
 | ct en2=>cases hf
 | rt t en2 =>
  cases hf;exact fun v σ2 H2 R2 F P2 o=>k v H2 R2 F (back P2) o
def Post.slot {F G F':AS} {l:Addr} {o2:HO} (P:Post K p ds1 Ox σ H en R en1 H1 R1 F) (hl:R1 i l) (hi:i < en1.length) (hv:σ[i]?=some (some v)) (hd:ds1[i]?=some d)
  (hg:∀ a,G a->R1 i a\/F a) (hf:∀ a,F' a->R1 i a\/F a) (hx:∀ a,G a->¬ F' a)
  (ho:Ow K (Own (fun j=>if j=i then G else R1 j) (U F' Ox)) (upd H1 l o2) t d v G) :
  Post K false ds1 Ox σ H en R (en1.set i (some t)) (upd H1 l o2) (fun j=>if j=i then G else R1 j) F':=by
 have rc:∀ (j:Nat) a,(if j=i then G else R1 j) a->R1 j a\/(j=i/\F a):=fun j a z=>by
  by_cases hj:j=i
  ·rw [if_pos hj] at z;rcases hg a z with z | z
   ·exact .inl (hj ▸ z)
   ·exact .inr ⟨hj,z⟩
  ·rw [if_neg hj] at z; exact .inl z
 have sub:∀ a,Own (fun j=>if j=i then G else R1 j) (U F' Ox) a->Own R1 (U F Ox) a:=fun a z=>by
  rcases z with ⟨j,z⟩ | z | z
  ·rcases rc j a z with z | ⟨_,z⟩
   ·exact .inl ⟨j,z⟩
   ·exact .inr (.inl z)
  ·rcases hf a z with z | z
   ·exact .inl ⟨i,z⟩
   ·exact .inr (.inl z)
  ·exact .inr (.inr z)
 have dom2:∀ a o,H1 a=some o->∃ o',upd H1 l o2 a=some o':=fun a o q=>by
  by_cases ha:a=l
  ·subst ha; exact ⟨_,aF⟩
  ·exact ⟨o,by rw [aC ha]; exact q⟩
 have nl:∀ a o,H1 a=some o->a≠l->upd H1 l o2 a=some o:=fun a o q n=>by rw [aC n]; exact q
 refine ⟨⟨fun j u hu=>?_,fun j j' a z z'=>?_,fun j a z z2=>?_,fun a z=>?_,by rw [zaT]; exact P.env.l1,P.env.l2⟩,fun a z z2=>?_,fun a o q n=>?_,fun a z=>?_,fun a o q=>?_,fun z=>nomatch z⟩
 ·by_cases hj:j=i
  ·subst hj;rw [zaN hi] at hu;cases hu;refine ⟨v,d,hv,hd,?_⟩;rw [if_pos rfl];exact ho
  ·rw [zaM (Ne.symm hj)] at hu;obtain ⟨v',d',g1,g2,g3⟩:=P.env.at_ j u hu;refine ⟨v',d',g1,g2,?_⟩;rw [if_neg hj];refine Ow.mv (G:=R1 j) ⟨fun a o q z=>nl a o q fun za=>?_,fun a z=>.inl (sub a z)⟩ u (fun _ z=>z) g3;subst za;rcases z with z | z
   ·exact z (.inl ⟨i,hl⟩)
   ·exact hj (P.env.dj j i a z hl)
 ·have z0:=z;have z0':=z';by_cases hj:j=i <;> by_cases hj':j'=i
  ·rw [hj,hj']
  ·rw [if_pos hj] at z0; rw [if_neg hj'] at z0';rcases hg a z0 with z1 | z1
   ·exact absurd (P.env.dj i j' a z1 z0') (fun e=>hj' e.symm)
   ·exact absurd (.inl z1) (P.env.dx j' a z0')
  ·rw [if_neg hj] at z0; rw [if_pos hj'] at z0';rcases hg a z0' with z1 | z1
   ·exact absurd (P.env.dj j i a z0 z1) hj
   ·exact absurd (.inl z1) (P.env.dx j a z0)
  ·rw [if_neg hj] at z0; rw [if_neg hj'] at z0';exact P.env.dj j j' a z0 z0'
 ·have z0:=z;by_cases hj:j=i
  ·rw [if_pos hj] at z0;rcases z2 with z2 | z2
   ·exact hx a z0 z2
   ·rcases hg a z0 with z1 | z1
    ·exact P.env.dx i a z1 (.inr z2)
    ·exact P.fx a z1 z2
  ·rw [if_neg hj] at z0;rcases z2 with z2 | z2
   ·rcases hf a z2 with z1 | z1
    ·exact hj (P.env.dj j i a z0 z1)
    ·exact P.env.dx j a z0 (.inl z1)
   ·exact P.env.dx j a z0 (.inr z2)
 ·obtain ⟨o,q⟩:=P.env.dom a (sub a z);exact dom2 a o q
 ·rcases hf a z with z1 | z1
  ·exact P.env.dx i a z1 (.inr z2)
  ·exact P.fx a z1 z2
 ·refine nl a o (P.keep a o q n) fun za=>?_;subst za;rcases P.own a (.inr ⟨i,hl⟩) with ⟨j,z⟩ | z
  ·exact n j z
  ·rw [q] at z; cases z
 ·have:F a\/∃ j,R1 j a:=by
   rcases z with z | ⟨j,z⟩
   ·rcases hf a z with z | z
    ·exact .inr ⟨i,z⟩
    ·exact .inl z
   ·rcases rc j a z with z | ⟨_,z⟩
    ·exact .inr ⟨j,z⟩
    ·exact .inl z
  exact P.own a this
 ·obtain ⟨o',q'⟩:=P.dom a o q;exact dom2 a o' q'
def ia {G F' F:AS} (hg:∀ a,G a->R1 i a\/F a) (hf:∀ a,F' a->R1 i a\/F a):∀ a,Own (fun j=>if j=i then G else R1 j) (U F' Ox) a->Own R1 (U F Ox) a:=fun a z=>by
 rcases z with ⟨j,z⟩ | z | z
 ·by_cases hj:j=i
  ·rw [if_pos hj] at z;rcases hg a z with z | z
   ·exact .inl ⟨i,z⟩
   ·exact .inr (.inl z)
  ·rw [if_neg hj] at z; exact .inl ⟨j,z⟩
 ·rcases hf a z with z | z
  ·exact .inl ⟨i,z⟩
  ·exact .inr (.inl z)
 ·exact .inr (.inr z)
def aI {α:Type} {en:List (Option α)} {i:Nat} {t:α} (h:(en[i]?).join=some t):en[i]?=some (some t):=by
 cases q:en[i]? with
 | none=>rw [q] at h; cases h
 | some o=>rw [q] at h; exact congrArg some h
def Ow.sqL {ts:List PyData} {F:AS} (h:Ow K O H (.list ts) d v F):∃ a vs,v=.ref a/\SqL K H a vs:=by
 obtain ⟨a,vs,e,⟨_,h1,_⟩ | ⟨_,h1,_⟩⟩:=h
 ·exact ⟨a,vs,e,h1.sq⟩
 ·exact ⟨a,vs,e,SqL.of h1⟩
def Ow.ownL {ts:List PyData} {F:AS} (hd:d≠0) (h:Ow K O H (.list ts) d v F):∃ a vs,v=.ref a/\H a=some (.lst vs)/\F a/\∃ F':AS,(∀ b,F' b->F b/\b≠a)/\Ows K O H ts (dn d) vs F':=by
 obtain ⟨a,vs,e,⟨h0,_⟩ | ⟨_,h1,h2,h3⟩⟩:=h
 ·exact absurd h0 hd
 ·exact ⟨a,vs,e,h1,h2,h3⟩
def Ows.past {ts:List PyData} {vs:List V} {F:AS} {l:Addr} {o:HO} (ho:∀ a,O' a->O a) (hl:O l) (hf:∀ b,F b->b≠l) (h:Ows K O H ts d vs F):Ows K O' (upd H l o) ts d vs F :=
 Ows.mv (G:=F) ⟨fun a u q z=>by
  rw [aC]
  ·exact q
  ·intro za;subst za;rcases z with z | z
   ·exact z hl
   ·exact hf a z rfl,fun a z=>.inl (ho a z)⟩ ts (fun _ z=>z) h
def Ow.past {F:AS} {l:Addr} {o:HO} (ho:∀ a,O' a->O a) (hl:O l) (hf:∀ b,F b->b≠l) (h:Ow K O H t d v F):Ow K O' (upd H l o) t d v F :=
 Ow.mv (G:=F) ⟨fun a u q z=>by
  rw [aC]
  ·exact q
  ·intro za;subst za;rcases z with z | z
   ·exact z hl
   ·exact hf a z rfl,fun a z=>.inl (ho a z)⟩ t (fun _ z=>z) h
def dB (i:Nat) (f:ME):ME:=fun en=>match (en[i]?).join with
 | some (.list _)=>(f en).bind fun r=>match (r.2[i]?).join with
  | some (.list ts)=>if ts.length < sizeLine then some (.none,r.2.set i (some (.list (ts++[r.1])))) else none
  | _=>none
 | _=>none
def Dl {c:Nat} (hd:ds1[i]?=some d) (hz:d≠0) (hc:dn d=c) (h:tF K false ds ds1 3 (dB i f) σ H Q):tBM K "list" jC (cR i) (ik (tF K p ds ds1 c f) kM) σ H Q:=by
 obtain ⟨Ox,en,R,t,en',e,hf,k⟩:=h;unfold dB at hf;split at hf
 case h_2=>cases hf
 next ts0 h0 =>
 obtain ⟨⟨t1,en1⟩,h1,hf⟩:=zaa.mp hf
 dsimp only at hf
 split at hf
 case h_2=>cases hf
 next ts h2 =>
 by_cases hlen:ts.length < sizeLine
 case neg=>rw [if_neg hlen] at hf; cases hf
 rw [if_pos hlen] at hf;cases hf;obtain ⟨v,d0,a1,_,a3⟩:=e.at_ i _ (aI h0);obtain ⟨l0,vs0,e0,sq⟩:=a3.sqL;refine ⟨v,a1,?_,Ox,en,R,t1,en1,e,h1,fun x H1 R1 F P o=>?_⟩
 ·rw [e0]; exact .inl ⟨rfl,vs0,sq⟩
 obtain ⟨v',d',b1,b2,b3⟩:=P.env.at_ i _ (aI h2);rw [a1] at b1;cases b1;rw [hd] at b2;cases b2;obtain ⟨l,vs,el,hl,hr,F',hf',ow⟩:=b3.ownL hz;refine ⟨l,vs,x,el,rfl,hl,by rw [ow.len]; exact hlen,?_⟩;have hi:i < en1.length:=(zah.mp (aI h2)).1;have Fn:∀ a,F a->a≠l:=fun a z z2=>by
  subst z2;exact P.env.dx i a hr (.inl z)
 have sub:=ia (i:=i) (R1:=R1) (Ox:=Ox) (G:=fun a=>R1 i a\/F a) (F':=NoA) (F:=F) (fun _ z=>z) (fun _ z=>z.elim);have Ol:Own R1 (U F Ox) l:=.inl ⟨i,hr⟩;refine k .non (upd H1 l (.lst (vs++[x]))) _ NoA (P.slot (G:=fun a=>R1 i a\/F a) hr hi a1 hd (fun _ z=>z) (fun _ z=>z.elim) (fun _ _ z=>z) ?_) rfl;refine ⟨l,vs++[x],el,.inr ⟨hz,aF,.inl hr,U F' F,fun b z=>?_,?_⟩⟩
 ·rcases z with z | z
  ·exact ⟨.inl (hf' b z).1,(hf' b z).2⟩
  ·exact ⟨.inr z,Fn b z⟩
 ·refine Ows.snoc (Ows.past sub Ol (fun b z=>(hf' b z).2) ow) ?_ fun b z1 z2=>P.env.dx i b (hf' b z1).1 (.inl z2);rw [hc];exact Ow.past sub Ol Fn o
def Ows.out:∀ {ts:List PyData} {vs:List V} {F:AS} {k:Nat} {t:PyData},Ows K O H ts d vs F->ts[k]?=some t ->
  ∃ v,∃ F1 F2:AS,vs[k]?=some v/\(∀ b,F1 b->F b)/\(∀ b,F2 b->F b)/\(∀ b,F1 b->¬ F2 b)/\Ow K O H t d v F1/\Ows K O H (ts.eraseIdx k) d (vs.eraseIdx k) F2
 | [],_,_,k,t,_,h=>by simp at h
 | u :: ts,_,F,k,t,h,hk=>by
  obtain ⟨v,r,F1,F2,e,s1,s2,s3,h4,h5⟩:=h;subst e;cases k with
  | zero =>
   have:u=t:=by simpa using hk
   subst this;exact ⟨v,F1,F2,rfl,s1,s2,s3,h4,h5⟩
  | succ k =>
   obtain ⟨w,G1,G2,g1,g2,g3,g4,g5,g6⟩:=Ows.out (k:=k) h5 (by simpa using hk);refine ⟨w,G1,U F1 G2,by simpa using g1,fun b z=>s2 b (g2 b z),fun b z=>z.elim (s1 b) fun z=>s2 b (g3 b z),fun b z z2=>?_,g5,v,r.eraseIdx k,F1,G2,rfl,fun b=>.inl,fun b=>.inr,fun b z1 z2=>s3 b z1 (g3 b z2),h4,g6⟩;rcases z2 with z2 | z2
   ·exact s3 b z2 (g2 b z)
   ·exact g4 b z z2
def gZ (i:Nat):ME:=fun en=>match (en[i]?).join with
 | some (.list ts)=>(ts[ts.length - 1]?).map fun t=>(t,en.set i (some (.list ts.dropLast)))
 | _=>none
def Dd {c:Nat} (hd:ds[i]?=some d) (hz:d≠0) (hc:dn d=c) (h:tF K false ds ds c (gZ i) σ H Q):AB K "list" AG (cR i) σ H Q:=by
 obtain ⟨Ox,en,R,t,en',e,hf,k⟩:=h;unfold gZ at hf;split at hf
 case h_2=>cases hf
 next ts h0 =>
 obtain ⟨t',h1,hf⟩:=zab.mp hf;cases hf;obtain ⟨v,d',a1,a2,a3⟩:=e.at_ i _ (aI h0);rw [hd] at a2;cases a2;obtain ⟨l,vs,el,hl,hr,F',hf',ow⟩:=a3.ownL hz;have len:=ow.len;obtain ⟨w,F1,F2,g1,g2,g3,g4,g5,g6⟩:=ow.out h1;refine ⟨v,a1,by rw [el]; exact .inl ⟨rfl,vs,SqL.of hl⟩,l,vs,w,el,rfl,hl,by rw [len]; exact g1,?_⟩;have hi:i < en.length:=(zah.mp (aI h0)).1;have P:=Post.refl (p:=true) e;have eqU:U (fun _=>False) Ox=Ox:=eJ;have hO:Own R (U (fun _=>False) Ox)=Own R Ox:=by rw [eqU]
 have gG:∀ a,(fun a=>R i a/\¬ F1 a) a->R i a\/False:=fun a z=>.inl z.1;have gF:∀ a,F1 a->R i a\/False:=fun a z=>.inl (hf' a (g2 a z)).1;have sub:∀ a,Own (fun j=>if j=i then (fun a=>R i a/\¬ F1 a) else R j) (U F1 Ox) a->Own R Ox a:=fun a z=>hO ▸ ia gG gF a z;have Ol:Own R Ox l:=.inl ⟨i,hr⟩;have F1l:¬ F1 l:=fun z=>(hf' l (g2 l z)).2 rfl;have ed:ts.eraseIdx (ts.length - 1)=ts.dropLast:=gi ts;have ed2:vs.eraseIdx (ts.length - 1)=vs.dropLast:=by rw [<- len]; exact gi vs
 rw [ed,ed2] at g6;rw [hc] at g5;refine k w (upd H l (.lst vs.dropLast)) _ F1 (P.slot (G:=fun a=>R i a/\¬ F1 a) (F:=fun _=>False) hr hi a1 hd gG gF (fun a z z2=>z.2 z2) ?_) (Ow.past sub Ol (fun b z=>(hf' b (g2 b z)).2) g5);exact ⟨l,vs.dropLast,el,.inr ⟨hz,aF,⟨hr,F1l⟩,F2,fun b z=>⟨⟨(hf' b (g3 b z)).1,fun z1=>g4 b z1 z⟩,(hf' b (g3 b z)).2⟩,Ows.past sub Ol (fun b z=>(hf' b (g3 b z)).2) g6⟩⟩
def DW (i:Nat) (f:ME):ME:=fun en=>match (en[i]?).join with
 | some (.list _)=>(f en).bind fun r=>match r.1,(r.2[i]?).join with
  | .int n,some (.list ts)=>if -(2 ^ 63)<=n/\n < 2 ^ 63 then (seqIndex? n ts.length).bind fun k=>(ts[k]?).map fun t=>(t,r.2.set i (some (.list (ts.eraseIdx k)))) else none
  | _,_=>none
 | _=>none
def Ows.setAt:∀ {ts:List PyData} {vs:List V} {F F2:AS} {k:Nat} {t:PyData} {v:V},Ows K O H ts d vs F->Ow K O H t d v F2->(∀ b,F b->¬ F2 b)->Ows K O H (ts.set k t) d (vs.set k v) (U F F2)
 | [],_,_,_,_,_,_,h,_,_=>by rw [show _=[] from h]; rfl
 | u :: ts,_,F,F2,k,t,v,h,h2,hd=>by
  obtain ⟨w,r,G1,G2,e,s1,s2,s3,h4,h5⟩:=h;subst e;cases k with
  | zero=>exact ⟨v,r,F2,G2,rfl,fun _ z=>.inr z,fun b z=>.inl (s2 b z),fun b z z2=>hd b (s2 b z2) z,h2,h5⟩
  | succ k =>
   refine ⟨w,r.set k v,G1,U G2 F2,rfl,fun b z=>.inl (s1 b z),fun b z=>z.imp (s2 b) id,fun b z z2=>?_,h4,Ows.setAt h5 h2 fun b z=>hd b (s2 b z)⟩;rcases z2 with z2 | z2
   ·exact s3 b z z2
   ·exact hd b (s1 b z) z2
def dM (i:Nat) (fk fe:ME):MS:=fun en=>(fe en).bind fun r=>match (r.2[i]?).join with
 | some _=>(fk r.2).bind fun q=>match q.1,(q.2[i]?).join with
  | .int n,some (.list ts)=>(ixN ts.length n).map fun k=>.nx (q.2.set i (some (.list (ts.set k r.1))))
  | _,_=>none
 | none=>none
def xE {c:Nat} {fk fe:ME} (hd:ds2[i]?=some d) (hz:d≠0) (hc:dn d=c) (h:tFS K J ds ds2 (dM i fk fe) D σ H) :
  kO (tF K p1 ds ds1 c fe) (Bw (cR i) (tF K p2 ds1 ds2 d2 fk) wp) D σ H:=by
 obtain ⟨Ox,en,R,fl,e,hf,k⟩:=h;unfold dM at hf;obtain ⟨⟨t1,en1⟩,h1,hf⟩:=zaa.mp hf
 dsimp only at hf
 split at hf
 case h_2=>cases hf
 next tt h0 =>
 obtain ⟨⟨t2,en2⟩,h2,hf⟩:=zaa.mp hf
 dsimp only at hf
 split at hf
 case h_2=>cases hf
 next n ts h3 =>
 obtain ⟨kk,h4,hf⟩:=zab.mp hf;cases hf;refine ⟨Ox,en,R,t1,en1,e,h1,fun x H1 R1 F1 P1 o1=>?_⟩;obtain ⟨v0,d0,a1,_,_⟩:=P1.env.at_ i tt (aI h0);refine ⟨v0,a1,?_⟩;refine ⟨U F1 Ox,en1,R1,.int n,en2,P1.env,h2,fun y H2 R2 F2 P2 o2=>?_⟩;have P:=P1.trans P2;have o1':=Ow.over P1.env P2 o1;obtain ⟨v',d',b1,b2,b3⟩:=P.env.at_ i _ (aI h3);rw [a1] at b1;cases b1;rw [hd] at b2;cases b2;obtain ⟨l,vs,el,hl,hr,F',hf',ow⟩:=b3.ownL hz;refine ⟨l,vs,n,kk,el,o2,hl,by rw [ow.len]; exact h4,?_⟩;have hi:i < en2.length:=(zah.mp (aI h3)).1;have Fn:∀ a,F1 a->a≠l:=fun a z z2=>by
  subst z2;exact P.env.dx i a hr (.inl (.inl z))
 have gG:∀ a,(fun a=>R2 i a\/F1 a) a->R2 i a\/U F1 F2 a:=fun a z=>z.imp id .inl;have sub:=ia (i:=i) (R1:=R2) (Ox:=Ox) (G:=fun a=>R2 i a\/F1 a) (F':=NoA) (F:=U F1 F2) gG (fun _ z=>z.elim);have Ol:Own R2 (U (U F1 F2) Ox) l:=.inl ⟨i,hr⟩;have PS:=P.slot (G:=fun a=>R2 i a\/F1 a) (F':=NoA) (o2:=.lst (vs.set kk x)) (t:=.list (ts.set kk t1)) hr hi a1 hd gG (fun _ z=>z.elim) (fun _ _ z=>z) ?_
 ·exact k σ _ _ PS.s
 refine ⟨l,vs.set kk x,el,.inr ⟨hz,aF,.inl hr,U F' F1,fun b z=>?_,?_⟩⟩
 ·rcases z with z | z
  ·exact ⟨.inl (hf' b z).1,(hf' b z).2⟩
  ·exact ⟨.inr z,Fn b z⟩
 ·refine Ows.setAt (Ows.past sub Ol (fun b z=>(hf' b z).2) ow) ?_ fun b z1 z2=>P.env.dx i b (hf' b z1).1 (.inl (.inl z2));rw [hc];exact Ow.past sub Ol Fn o1'
def Ows.get:∀ {ts:List PyData} {vs:List V} {F:AS} {k:Nat} {t:PyData},Ows K O H ts d vs F->ts[k]?=some t->∃ v,vs[k]?=some v/\Ow K O H t d v F
 | [],_,_,k,t,_,h=>by simp at h
 | u :: ts,_,F,k,t,h,hk=>by
  obtain ⟨v,r,F1,F2,e,s1,s2,s3,h4,h5⟩:=h;subst e;cases k with
  | zero =>
   have:u=t:=by simpa using hk
   subst this;exact ⟨v,rfl,Ow.grow (fun _ z=>z) u s1 h4⟩
  | succ k =>
   obtain ⟨w,g1,g2⟩:=Ows.get (k:=k) h5 (by simpa using hk);exact ⟨w,by simpa using g1,Ow.grow (fun _ z=>z) t s2 g2⟩
def Ows.atI {ts:List PyData} {vs:List V} {F:AS} {n:Int} {t:PyData} (h:Ows K O H ts d vs F) (ht:L2.atI ts n=some t):∃ v,L2.atI vs n=some v/\Ow K O H t d v F:=by
 unfold L2.atI at ht ⊢;rw [h.len];obtain ⟨k,h1,h2⟩:=zaa.mp ht;obtain ⟨v,g1,g2⟩:=h.get h2;exact ⟨v,by rw [h1]; exact g1,g2⟩
def gj (i:Nat) (f:ME):ME:=fun en=>(en[i]?).join.bind fun _=>(f en).bind fun r=>match r.1,(r.2[i]?).join with
 | .int n,some (.list ts)=>(atI ts n).map fun t=>(t,r.2)
 | _,_=>none
def Dj (hd:ds1[i]?=some 1) (h:tF K p ds ds1 0 (gj i f) σ H Q):tOp (m3 K) (cR i) (tF K p ds ds1 d1 f) σ H Q:=by
 obtain ⟨Ox,en,R,t,en',e,hf,k⟩:=h;unfold gj at hf;obtain ⟨t0,h0,hf⟩:=zaa.mp hf;obtain ⟨⟨t1,en1⟩,h1,hf⟩:=zaa.mp hf
 dsimp only at hf
 split at hf
 case h_2=>cases hf
 next n ts h2 =>
 obtain ⟨t',h3,hf⟩:=zab.mp hf;cases hf;obtain ⟨v,d0,a1,_,a3⟩:=e.at_ i _ (aI h0);refine ⟨v,a1,Ox,en,R,.int n,_,e,h1,fun x H1 R1 F P o=>?_⟩;obtain ⟨v',d',b1,b2,b3⟩:=P.env.at_ i _ (aI h2);rw [a1] at b1;cases b1;rw [hd] at b2;cases b2;obtain ⟨l,vs,el,hl,hr,F',hf',ow⟩:=b3.ownL (by decide);obtain ⟨w,g1,g2⟩:=ow.atI h3;refine ⟨l,vs,n,w,el,o,SqL.of hl,g1,k w H1 R1 NoA (P.less fun _ z=>z.elim) ?_⟩;exact Ow.any0 _ (Ow.grow (fun a z=>z.imp id fun z=>z.elim (fun z=>False.elim z) Or.inr) _ (fun _ z=>z) g2)
end
def PE.imp {X:Cx} {e:Expr} {t t':TE} (h:PE X e t) (hi:∀ σ H Q,t' σ H Q->t σ H Q):PE X e t':=fun pins s σ H Q I hw=>h pins s σ H Q I (hi _ _ _ hw)
def PT.imp {X:Cx} {e:Expr} {t t':TT} (h:PT X e t) (hi:∀ σ H Q,t' σ H Q->t σ H Q):PT X e t':=fun pins s σ H Q I hw=>h pins s σ H Q I (hi _ _ _ hw)
def PW.imp {X:Cx} {e:Expr} {t t':TT} (h:PW X e t) (hi:∀ σ H Q,t' σ H Q->t σ H Q):PW X e t':=fun wh pins s σ H Q I hw=>h wh pins s σ H Q I (hi _ _ _ hw)
def PA.imp {X:Cx} {e:List Expr} {t t':TA} (h:PA X e t) (hi:∀ σ H Q,t' σ H Q->t σ H Q):PA X e t':=fun pos pins s σ H Q I hw=>h pos pins s σ H Q I (hi _ _ _ hw)
def PS.imp {X:Cx} {e:Stmt} {t t':TS} (h:PS X e t) (hi:∀ D σ H,t' D σ H->t D σ H):PS X e t':=fun pins s σ H D I hw=>h pins s σ H D I (hi _ _ _ hw)
def PSs.imp {X:Cx} {e:List Stmt} {t t':TS} (h:PSs X e t) (hi:∀ D σ H,t' D σ H->t D σ H):PSs X e t':=fun pins s σ H D I hw=>h pins s σ H D I (hi _ _ _ hw)
def PG.imp {X:Cx} {e:Expr} {t t':TG} (h:PG X e t) (hi:∀ v σ H Q,t' v σ H Q->t v σ H Q):PG X e t':=fun pins s σ H v u Q I r hw=>h pins s σ H v u Q I r (hi _ _ _ _ hw)
def PGs.imp {X:Cx} {e:List Expr} {t t':TGs} (h:PGs X e t) (hi:∀ v σ H Q,t' v σ H Q->t v σ H Q):PGs X e t':=fun pins s σ H v u Q I r hw=>h pins s σ H v u Q I r (hi _ _ _ _ hw)
def PI.imp {X:Cx} {tg e:Expr} {t t':TI} (h:PI X tg e t) (hi:∀ σ H R,t' σ H R->t σ H R):PI X tg e t':=fun pins s σ H R I hw=>h pins s σ H R I (hi _ _ _ hw)
def PTs.imp {X:Cx} {e:List Expr} {t t':TT} (h:PTs X e t) (hi:∀ σ H Q,t' σ H Q->t σ H Q):PTs X e t':=fun pins s σ H Q I hw=>h pins s σ H Q I (hi _ _ _ hw)
def aG:Expr->Bool
 | .Starred _ _=>false
 | _=>true
def br {e:Expr} {es:List Expr} {env:Env} (h:aG e=true):starEach (e :: es) env=(false,eval e env) :: starEach es env:=by
 cases e <;> first | rfl | cases h
def eg {pos:Pos} {env:Env}:∀ {es:List Expr},es.all aG=true->(backTo pos (starEach es env)).any (·.1)=false
 | [],_=>rfl
 | e :: es,h=>by
  rw [List.all_cons,Bool.and_eq_true] at h;rw [br h.1];show (false || (backTo pos (starEach es env)).any (·.1))=false;rw [eg h.2];rfl
section
variable {X:Cx} {K:PySem.W.Frag} {p p1 p2 q:Bool} {ds ds0 ds1 ds2 ds' dsi:List Nat} {d d' d1 d2:Nat} {a b c e:Expr} {es:List Expr} {f f1 f2:ME} {m c1 c2:MT} {fa:MA} {sh:Sh} {pos:Pos} {i:Nat} {x:Str}
def BQ {x:Str} (hN:X.N[i]?=some x) (hv:Vis X.env.scope x) (h0:ds[i]?=some 0) (hd:(x == ("__debug__" : Str))=false) (hcd:(x == ("__classdict__" : Str))=false):PE X (.Name x pos) (tF K p ds ds 0 (ae i)) :=
 (bG hN hv hd hcd).imp fun _ _ _ h=>Da h0 (kC (fun _=>rfl) h)
def C4 {x:Str} (hN:X.N[i]?=some x) (hv:Vis X.env.scope x) (h0:ds[i]?=some d) (hds:ds.set i 0=ds') (hd:(x == ("__debug__" : Str))=false) (hcd:(x == ("__classdict__" : Str))=false):PE X (.Name x pos) (tF K false ds ds' d (eMv i)):=by
 subst hds;exact (bG hN hv hd hcd).imp fun _ _ _=>DF h0
def B3 {n:Int} {j}:PE X (.Constant (.int n) j pos) (tF K p ds ds 3 (eC (.int n))):=pe_int.imp fun _ _ _ h=>f_c (t:=.int n) (fun _ _ _ _=>rfl) (kC (fun _=>rfl) h)
def C9 {n:Bool} {j}:PE X (.Constant (.bool n) j pos) (tF K p ds ds 3 (eC (.bool n))):=pe_bl.imp fun _ _ _ h=>f_c (t:=.bool n) (fun _ _ _ _=>rfl) (kC (fun _=>rfl) h)
def BW {j}:PE X (.Constant .none j pos) (tF K p ds ds 3 (eC .none)):=pe_non.imp fun _ _ _ h=>f_c (t:=.none) (fun _ _ _ _=>rfl) (kC (fun _=>rfl) h)
def BS (h:PE X e (tF K p ds ds' d f)) (hd:d'<=d):PE X e (tF K p ds ds' d' f):=h.imp fun _ _ _=>Dc hd
def C7 (h:PE X e (tF K p ds0 ds' d f)) (hd:leD ds0 ds=true):PE X e (tF K false ds ds' d f):=h.imp fun _ _ _=>DG hd
def C3 {op:Operator} {g:D->D->Option D} (ho:OpR X (binaryOp op) (rF2 K g d)) (ha:PE X a (tF K p ds ds1 d1 f1)) (hb:PE X b (tF K p ds1 ds2 d2 f2)):PE X (.BinOp a op b pos) (tF K p ds ds2 d (e2 g f1 f2)) :=
 (CI ho ha hb).imp fun _ _ _ h=>kB (by rw [Bool.and_self]; exact h)
def B5 {op:CmpOp} {g:D->D->Option D} (ho:OpR X (compareOp op) (rF2 K g d)) (ha:PE X a (tF K p ds ds1 d1 f1)) (hb:PE X b (tF K p ds1 ds2 d2 f2)) (hm:behindInMarks op b=false):PE X (.Compare a [op] [b] pos) (tF K p ds ds2 d (e2 g f1 f2)) :=
 (xb ho ha hb hm).imp fun _ _ _ h=>kB (by rw [Bool.and_self]; exact h)
def xz {op:CmpOp} {g:D->D->Option D} (ho:OpR X (compareOp op) (rF2 K g d)) (ha:PE X a (tF K p ds ds1 d1 f1)) (hb:PE X b (tF K p ds1 ds2 d2 f2)) (hm:behindInMarks op b=false):PT X (.Compare a [op] [b] pos) (tFT K p ds ds2 (tV (e2 g f1 f2))) :=
 (wX ho ha hb hm).imp fun σ H Q h=>by
  obtain ⟨Ox,en,R,t,en',e,hf,k⟩:=lq (d:=d) h;exact kB (by rw [Bool.and_self]; exact ⟨Ox,en,R,t,en',e,hf,k⟩)
def xw (h:PE X e (tF K p ds ds' d f)) (he:∀ whole,isTrue e X.env whole=(do let v <- whole; standAt e.pos; holding [v] (truthy v))):PT X e (tFT K p ds ds' (tV f)):=(AN h he).imp fun _ _ _=>lq
def xt (ha:PT X a (tFT K p ds ds1 c1)):PW X (.BoolOp .And [a] pos) (tFT K p ds ds1 c1):=wU ha
def By (ha:PT X a (tFT K p ds ds1 c1)):PW X (.BoolOp .Or [a] pos) (tFT K p ds ds1 c1):=AK ha
def Bz {rest:List Expr} (ha:PT X a (tFT K p ds ds1 c1)) (hb:PW X (.BoolOp .And (b :: rest) pos) (tFT K p ds1 ds1 c2)):PW X (.BoolOp .And (a :: b :: rest) pos) (tFT K p ds ds1 (cI c1 c2)):=(AL ha hb).imp fun _ _ _ h=>BC (by rw [Bool.and_self]; exact h)
def CT {rest:List Expr} (ha:PT X a (tFT K p ds ds1 c1)) (hb:PW X (.BoolOp .Or (b :: rest) pos) (tFT K p ds1 ds1 c2)):PW X (.BoolOp .Or (a :: b :: rest) pos) (tFT K p ds ds1 (bOr c1 c2)):=(CC ha hb).imp fun _ _ _ h=>CU (by rw [Bool.and_self]; exact h)
def xx (ha:PT X a (tFT K p ds ds1 c1)):PT X (.UnaryOp .Not a pos) (tFT K p ds ds1 (hW c1)):=(AO ha).imp fun _ _ _=>BA
def xA (h:PT X e (tFT K true ds0 ds0 c1)) (hd:leD ds0 ds=true):PT X e (tFT K p ds ds c1):=h.imp fun _ _ _ ⟨Ox,en,R,t,en',e,hf,k⟩=>BB hd ⟨Ox,en,R,t,en',e,hf,fun H' R' P=>k H' R' ⟨P.env,P.fx,P.keep,P.own,P.dom,fun _=>P.pure rfl⟩⟩
def BU {op} (h:PE X a (tF K p ds ds1 d f)):PE X (.BoolOp op [a] pos) (tF K p ds ds1 d f):=AY h
def B7 {rest:List Expr} (ha:PE X a (tF K p ds ds1 d1 f1)) (hb:PE X (.BoolOp .And (b :: rest) pos) (tF K p ds1 ds1 d f2)):PE X (.BoolOp .And (a :: b :: rest) pos) (tF K p ds ds1 d (dC f1 f2)):=(A4 ha hb).imp fun _ _ _ h=>Dm (by rw [Bool.and_self]; exact h)
def C2 {rest:List Expr} (ha:PE X a (tF K p ds ds1 d1 f1)) (hb:PE X (.BoolOp .Or (b :: rest) pos) (tF K p ds1 ds1 d f2)):PE X (.BoolOp .Or (a :: b :: rest) pos) (tF K p ds ds1 d (eOr f1 f2)):=(CH ha hb).imp fun _ _ _ h=>DE (by rw [Bool.and_self]; exact h)
def BV (ha:PE X a (tF K p ds ds1 d1 f)):PE X (.UnaryOp .Not a pos) (tF K p ds ds1 3 (jO f)):=(AZ ha).imp fun _ _ _=>Dg
def ye:PA X [] (tFA K p ds ds [] ai):=pa_nil.imp fun _ _ _ ⟨Ox,en,R,t,en',e,hf,k⟩=>pb ⟨Ox,en,R,t,en',e,hf,fun vs H' R' F P=>k vs H' R' F ⟨P.env,P.fx,P.keep,P.own,P.dom,fun _=>P.pure rfl⟩⟩
def qJ (ha:PE X e (tF K p ds ds1 d f)) (hr:PA X es (tFA K p ds1 ds2 sh fa)) (hs:aG e=true):PA X (e :: es) (tFA K p ds ds2 (.inl d :: sh) (af f fa)):=(cV ha hr (br hs)).imp fun _ _ _ h=>jL (by rw [Bool.and_self]; exact h)
def qI {x:Str} (hN:X.N[i]?=some x) (hv:Vis X.env.scope x) (hr:PA X es (tFA K p ds ds2 sh fa)) (hd:(x == ("__debug__" : Str))=false) (hcd:(x == ("__classdict__" : Str))=false) :
  PA X (.Name x pos :: es) (tFA K p ds ds2 (.inr i :: sh) (aS i fa)):=(cV (bG hN hv hd hcd) hr (br rfl)).imp fun _ _ _=>yd
def BX {c:Nat} (h:PA X es (tFA K p ds ds1 sh fa)) (hs:bm c sh=true) (hd:dn d=c) (hz:d≠0):PE X (.List es pos) (tF K p ds ds1 d (aY fa)):=(A1 h).imp fun _ _ _=>Dh hs hd hz
def BR {c:Nat} {x1} (h:PA X es (tFA K p ds ds1 sh fa)) (hs:bm c sh=true) (hd:dn d=c):PE X (.Tuple es x1 pos) (tF K p ds ds1 d (fg fa)):=(AX h).imp fun _ _ _=>Db hs hd
def qH {id:String} {x:Str} {px:Pos} {g:List D->Option D} (hc:CallR X (.builtin id) (rFn K g d)) (hg:Gl X x) (hm:X.mg x=none) (hv:bootBuiltins x=some (.builtin id)) (ha:PA X (e :: es) (tFA K p ds ds1 sh fa)) (hsh:bm 0 sh=true) (hn:x≠"__name__") (hdb:(x == ("__debug__" : Str))=false)
  (he:aG e=true) (hpl:es.all aG=true):PE X (.Call (.Name x px) (e :: es) [] pos) (tF K p ds ds1 d (eN g fa)) :=
 (kS hc hg hm hv ha hn hdb (br he) (eg hpl)).imp fun _ _ _=>lw hsh
def oZ {T:String} {x:Str} {px:Pos} {g:List D->Option D} (hc:CallR X (.type T) (rFn K g d)) (hg:Gl X x) (hm:X.mg x=none) (hv:bootBuiltins x=some (.type T)) (ha:PA X (e :: es) (tFA K p ds ds1 sh fa)) (hsh:bm 0 sh=true) (hn:x≠"__name__") (hdb:(x == ("__debug__" : Str))=false)
  (he:aG e=true) (hpl:es.all aG=true):PE X (.Call (.Name x px) (e :: es) [] pos) (tF K p ds ds1 d (eN g fa)) :=
 (j7 hc hg hm hv ha hn hdb (br he) (eg hpl)).imp fun _ _ _=>lw hsh
def C8 {k:Nat} {x:Str} {ps:List Str} {px:Pos} {dps:List Nat} {dr:Nat} {F:List D->Option (D × En)} (G:Kn X.prog X.w X.K X.mg X.base k x ps (spF K dps dr F)) (hr:Room k X.A) (hg:Gl X x) (ha:PA X (e :: es) (tFA K p ds ds1 sh fa)) (hns:eA sh=true) (hcd:ci ds1 sh dps=true) (hdb:(x == ("__debug__" : Str))=false)
  (he:aG e=true) (hpl:es.all aG=true) :
  PE X (.Call (.Name x px) (e :: es) [] pos) (tF K p ds ds1 dr (av F fa)):=(wt G hr hg ha hdb (br he) (eg hpl)).imp fun _ _ _ h=>Cb hcd (by rw [hns,Bool.and_true]; exact h)
def B4 {k:Nat} {x:Str} {ps:List Str} {px:Pos} {dps:List Nat} {dr:Nat} {F:List D->Option (D × En)} (G:Kn X.prog X.w X.K X.mg X.base k x ps (spF K dps dr F)) (hr:Room k X.A) (hg:Gl X x) (ha:PA X (e :: es) (tFA K false ds ds1 sh fa)) (hcd:ci ds1 sh dps=true) (hdb:(x == ("__debug__" : Str))=false)
  (he:aG e=true) (hpl:es.all aG=true) :
  PE X (.Call (.Name x px) (e :: es) [] pos) (tF K false ds ds1 dr (av F fa)):=(wt G hr hg ha hdb (br he) (eg hpl)).imp fun _ _ _ h=>Cb hcd h
def C6 {g:D->D->Option D} (ho:IxR X (rF2 K g d)) (ha:PE X a (tF K p ds ds1 d1 f1)) (hb:PE X b (tF K p ds1 ds2 d2 f2)) (hs:b0 b):PE X (.Subscript a b pos) (tF K p ds ds2 d (e2 g f1 f2)) :=
 (kx ho ha hb hs).imp fun _ _ _ h=>kB (by rw [Bool.and_self]; exact h)
def B0 {x:Str} {px:Pos} (hK:X.K=K) (hN:X.N[i]?=some x) (hv:Vis X.env.scope x) (h1:ds1[i]?=some 1) (hb:PE X b (tF K p ds ds1 d1 f)) (hs:b0 b) (hd:(x == ("__debug__" : Str))=false) (hcd:(x == ("__classdict__" : Str))=false) :
  PE X (.Subscript (.Name x px) b pos) (tF K p ds ds1 0 (gj i f)):=(kx (DC hK) (bG hN hv hd hcd) hb hs).imp fun _ _ _=>Dj h1
def B6 {c:Nat} {x:Str} {px apos cpos:Pos} (hK:X.K=K) (hN:X.N[i]?=some x) (hv:Vis X.env.scope x) (h1:ds1[i]?=some d) (he:PE X e (tF K false ds ds1 c f)) (hz:d≠0) (hc:dn d=c)
  (hd:(x == ("__debug__" : Str))=false) (hcd:(x == ("__classdict__" : Str))=false)
  (hbase:attributeBase (.Name x px) "append" X.env (eval (.Name x px) X.env)=eval (.Name x px) X.env)
  (hfew:((backTo cpos (starEach [e] X.env)).all (fun x=>!x.1) && (backToKw cpos (keywordEach [] X.env)).all (fun x=>x.1.isSome) && decide (([e]:List Expr).length+([]:List Keyword).length+(if ([]:List Keyword).isEmpty then 0 else 1) < 30))=true)
  (hline:(apos.endLine == cpos.line)=true) (hs:starEach [e] X.env=[(false,eval e X.env)]) (hplain:(backTo cpos (starEach [] X.env)).any (·.1)=false) :
  PE X (.Call (.Attribute (.Name x px) "append" apos) [e] [] cpos) (tF K false ds ds1 3 (dB i f)):=by
 subst hK;exact (wu PySem.F.plainAttrs_list PySem.F.slot_list_append PySem.F.type_list_append gP (bG hN hv hd hcd) (cV he pa_nil hs) hbase hfew hline hs hplain).imp fun _ _ _=>Dl h1 hz hc
def BT {c:Nat} {x:Str} {px apos cpos:Pos} (hK:X.K=K) (hN:X.N[i]?=some x) (hv:Vis X.env.scope x) (h1:ds[i]?=some d) (hz:d≠0) (hc:dn d=c)
  (hd:(x == ("__debug__" : Str))=false) (hcd:(x == ("__classdict__" : Str))=false)
  (hbase:attributeBase (.Name x px) "pop" X.env (eval (.Name x px) X.env)=eval (.Name x px) X.env) (hline:(apos.endLine == cpos.line)=true) :
  PE X (.Call (.Attribute (.Name x px) "pop" apos) [] [] cpos) (tF K false ds ds c (gZ i)):=by
 subst hK;exact (A3 PySem.F.plainAttrs_list PySem.F.slot_list_pop PySem.F.type_list_pop Bc (bG hN hv hd hcd) hbase hline).imp fun _ _ _=>Dd h1 hz hc
def cY:MT:=fun en=>some (true,en)
def xv:PTs X [] (tFT K p ds ds cY):=pts_nil.imp fun σ H Q ⟨Ox,en,R,b,en',e,hf,k⟩=>by
 cases hf;exact k H R (Post.refl e)
def xu (hc:PT X c (tFT K p ds ds1 c1)):PTs X [c] (tFT K p ds ds1 c1):=wW hc
def C5 {elt tg iter:Expr} {ifs:List Expr} {scope:Scope} {ns:List Str} {js:List (Option Nat)} {fi:MI} {g:MG} {lk:List Nat} {cd:Nat} (B:BlkOkC X scope ns js) (hc:X.calm=true) (hi:PI X tg iter (tFI K p ds ds1 fi))
  (hg:∀ C cl s₀ H₀ fp,PG (aH X scope ns C cl s₀ H₀ fp) tg (tFG K lk dsi dsi g)) (ht:∀ C cl s₀ H₀ fp,PTs (aH X scope ns C cl s₀ H₀ fp) ifs (tFT K true dsi dsi c1)) (he:∀ C cl s₀ H₀ fp,PE (aH X scope ns C cl s₀ H₀ fp) elt (tF K true dsi dsi cd f))
  (hcap:fq ds1 js dsi=true) (hd:dn d=cd) (hz:d≠0) (hlk:lk=fj js 0)
  (hs:∀ x,foldedSetIterable iter X.env x=pure x):PE X (.ListComp elt [⟨tg,iter,ifs,0⟩] scope pos) (tF K p ds ds1 d (eLC true fi g c1 f js)) :=
 (A2 B hc hi hg ht he hs).imp fun _ _ _ h=>Ca hcap hd hz hlk (by rw [Bool.and_true]; exact h)
end
def Ec (f:ME) (g:MG):MS:=fun en=>(f en).bind fun r=>(g r.1 r.2).map .nx
section
variable {K:PySem.W.Frag} {p p1 p2 q:Bool} {J:Jd} {ds ds0 ds1 ds2 ds' dsi dps:List Nat} {d d' d1 d2 dr:Nat} {f f1 f2 fk fe:ME} {c1 c2:MT} {fa:MA} {sh:Sh} {i:Nat} {m m1 m2:MS} {g:MG} {lk:List Nat} {σ:St} {H:Hp} {Dn:Ends}
end
section
variable {X:Cx} {K:PySem.W.Frag} {p p1 p2 q:Bool} {J:Jd} {ds ds0 ds1 ds2 ds' dsi dps:List Nat} {d d' d1 d2 dr:Nat} {a b c e tg iter:Expr} {es:List Expr} {st:Stmt} {rest body bodyB:List Stmt} {f f1 f2 fk fe:ME} {c1 c2:MT} {fa:MA} {sh:Sh} {pos px:Pos} {i:Nat} {x:Str} {m m1 m2:MS} {g:MG} {gs:List D->En->Option En} {fi:MI} {lk:List Nat}
def xD:PSs X [] (tFS K J ds ds be):=pss_nil.imp fun _ _ _=>BF
def qo (h1:PS X st (tFS K J ds ds1 m1)) (h2:PSs X rest (tFS K J ds1 ds2 m2)):PSs X (st :: rest) (tFS K J ds ds2 (ak m1 m2)):=(pS h1 h2).imp fun _ _ _=>BD
def xC (h1:PS X st (tFS K J ds ds1 m1)):PSs X [st] (tFS K J ds ds1 m1):=wY h1
def xB (h:PSs X rest (tFS K J ds ds2 m)) (hd:leD ds1 ds2=true):PSs X rest (tFS K J ds ds1 m):=h.imp fun _ _ _=>oM hd
def xL (he:PE X e (tF K false ds ds1 d f)) (hs:swapsWith e none pos.line X.env=pure false):PS X (.Expr e pos) (tFS K J ds ds1 (dz f)):=(wZ he hs).imp fun _ _ _=>BH
def xJ (he:PE X e (tF K false ds ds1 J.dr f)) (hd:leD J.dsr ds1=true):PS X (.Return (some e) pos) (tFS K J ds ds' (aN f)):=(AT he).imp fun _ _ _=>BE hd
def BI (hc:PT X c (tFT K false ds ds1 c1)) (ha:PSs X body (tFS K J ds1 ds2 m1)) (hb:PSs X bodyB (tFS K J ds1 ds2 m2)):PS X (.If c body bodyB pos) (tFS K J ds ds2 (sIf c1 m1 m2)):=(CF hc ha hb).imp fun _ _ _=>CV
def xI {x:Str} {pos':Pos} (hN:X.N.Nodup) (hi:X.N[i]?=some x) (hx:Loc X.env.scope x) (he:PE X e (tF K false ds ds1 d f)) (hds:ds1.set i d=ds') (hl:i < ds1.length) (hk:i ∉ J.lk)
  (hs:swapsWith e (some (.Name x pos')) pos.line X.env=pure false) (hf:X.fn x=true\/X.env.scope.names.lookup x=some .local) :
  PS X (.Assign [.Name x pos'] e pos) (tFS K J ds ds' (ay i f)):=by
 subst hds;exact (AR hN hi hx he hs hf).imp fun _ _ _=>oN hl hk
def oP {x:Str} {spos pos':Pos} {elt:Expr} {ifs:List Expr} {scope:Scope} {ns:List Str} {js:List (Option Nat)} {cd:Nat} (hN:X.N.Nodup) (hi':X.N[i]?=some x) (hx:X.env.scope.names.lookup x=some .local) (B:BlkOkC X scope ns js) (hc:X.calm=true) (hi:PI X tg iter (tFI K false ds ds1 fi))
  (hg:∀ C cl s₀ H₀ fp,PG (aH X scope ns C cl s₀ H₀ fp) tg (tFG K lk dsi dsi g)) (ht:∀ C cl s₀ H₀ fp,PTs (aH X scope ns C cl s₀ H₀ fp) ifs (tFT K q dsi dsi c1)) (he:∀ C cl s₀ H₀ fp,PE (aH X scope ns C cl s₀ H₀ fp) elt (tF K q dsi dsi cd f))
  (hds:ds1.set i d=ds') (hcap:fq ds1 js dsi=true) (hd:dn d=cd) (hz:d≠0) (hlk:lk=fj js 0) (hl:i < ds1.length) (hk:i ∉ J.lk)
  (hsw:swapsWith (.ListComp elt [⟨tg,iter,ifs,0⟩] scope pos) (some (.Name x pos')) spos.line X.env=pure true)
  (hs:∀ x,foldedSetIterable iter X.env x=pure x):PS X (.Assign [.Name x pos'] (.ListComp elt [⟨tg,iter,ifs,0⟩] scope pos) spos) (tFS K J ds ds' (ay i (eLC q fi g c1 f js))):=by
 subst hds;exact (nU hN hi' hx B hc hi hg ht he hsw hs).imp fun D σ H h=>Ca (p:=false) hcap hd hz hlk (oN (p:=false && q) hl hk h)
def qr {c:Nat} {x:Str} {spos:Pos} {k:Expr} (hN:X.N[i]?=some x) (hv:Vis X.env.scope x) (he:PE X e (tF K false ds ds1 c fe)) (hk:PE X k (tF K false ds1 ds2 d2 fk)) (h1:ds2[i]?=some d) (hz:d≠0) (hc:dn d=c)
  (hdb:(x == ("__debug__" : Str))=false) (hcd:(x == ("__classdict__" : Str))=false)
  (ha:∀ v,assign (.Subscript (.Name x px) k spos) X.env v=(do
   let ov <- holding [v] (eval (.Name x px) X.env);let iv <- holding [v,ov] (eval k X.env)
   standAt spos
   holding [v,ov,iv] (setItem ov iv v)
   release [v,ov,iv] []))
  (hs:swapsWithSole [.Subscript (.Name x px) k spos] e pos.line X.env=pure false) (hw:swappedStores [.Subscript (.Name x px) k spos] e X.env=pure none)
  (h2:(assignEach [.Subscript (.Name x px) k spos] X.env).map (·.2)=[assign (.Subscript (.Name x px) k spos) X.env]) :
  PS X (.Assign [.Subscript (.Name x px) k spos] e pos) (tFS K J ds ds2 (dM i fk fe)) :=
 (AU he (AW (bG hN hv hdb hcd) hk pL ha) hs hw h2).imp fun _ _ _=>xE h1 hz hc
def qA {x:Str} (hN:X.N.Nodup) (hi:X.N[i]?=some x) (hx:Loc X.env.scope x) (hds:ds.set i 0=ds') (hl:i < ds.length) (hk:i ∉ lk) (hf:X.fn x=true\/X.env.scope.names.lookup x=some .local) :
  PG X (.Name x pos) (tFG K lk ds ds' (gN i)):=by
 subst hds;exact (mn hN hi hx hf).imp fun _ _ _ _=>xX hl hk
def qy:PGs X [] (dy K lk ds ds gs0):=pgs_nil.imp fun _ _ _ _=>xV
def oX (h1:PG X e (tFG K lk ds ds1 g)) (h2:PGs X es (dy K lk ds1 ds2 gs)) (hs:(assignEach (e :: es) X.env).map (·.2)=assign e X.env :: (assignEach es X.env).map (·.2)):PGs X (e :: es) (dy K lk ds ds2 (gsC g gs)):=(pU h1 h2 hs).imp fun _ _ _ _=>qz
def fI {g1 g2:MG}:∀ ts en,(∃ en',gsC g1 (gsC g2 gs0) ts en=some en')->ts.length=2:=fun ts en ⟨en',h⟩=>by
 match ts,h with
 | [],h=>cases h
 | [_],h =>
  obtain ⟨_,_,h⟩:=zaa.mp h;cases h
 | [_,_],_=>rfl
 | a :: b :: c :: r,h =>
  obtain ⟨_,_,h⟩:=zaa.mp h;obtain ⟨_,_,h⟩:=zaa.mp h;cases h
def xW {k n:Nat} (hK:X.K=K) (hc:X.calm=true) (h:PGs X es (dy K lk ds ds1 gs)) (hl:∀ ts en,(∃ en',gs ts en=some en')->ts.length=n) (hn:(assignEach es X.env).length=n) (hst:(assignEach es X.env).findIdx? (·.1)=none) :
  PG X (.Tuple es k pos) (tFG K lk ds ds1 (gT gs)):=by
 subst hK;exact (AV hc h hn hst).imp fun _ _ _ _=>BP hl
def xK (hc:X.calm=true) (hi:PI X tg iter (tFI K false ds ds1 fi)) (hg:PG X tg (tFG K J.lk ds1 ds2 g)) (hb:PSs X body (tFS K { J with dsl:=ds1 } ds2 ds1 m)) (hp:PassesOwn (model X.prog X.w) X.A X.env X.xe)
  (hs:∀ x,foldedSetIterable iter X.env x=pure x):PS X (.For tg iter body [] pos) (tFS K J ds ds1 (cF fi g m)):=(nV hp hc hi hg hb hs).imp fun _ _ _=>BG
def oO (hc:PT X c (tFT K false ds ds1 c1)) (hb:PSs X body (tFS K { J with dsl:=ds } ds1 ds m)) (hp:PassesOwn (model X.prog X.w) X.A X.env X.xe):PS X (.While c body [] pos) (tFS K J ds ds1 (bB c1 m)):=(pT hp hc hb).imp fun _ _ _=>qp
end
def wm:D->Option (List D)
 | .list ts=>some ts
 | .tuple ts=>some ts
 | .str z=>some ((li z).map fun c=>.str (mk1 c))
 | _=>none
def cG (f:ME):MI:=fun en=>(f en).bind fun r=>(wm r.1).map fun ts=>(ts,r.2)
section
variable {K:PySem.W.Frag} {O O1:AS} {H0 H:Hp} {ts:List D} {vs:List V} {a:Addr} {F:AS}
def cw {O O1:AS} (h1:∀ a o,H0 a=some o->¬ O a->H a=some o) (h2:∀ a,O1 a->O a\/H0 a=none):Mv O O1 NoA H0 H:=⟨fun a o q z=>z.elim (h1 a o q) fun z=>z.elim,h2⟩
def nJ (h:FzL K O H0 a vs) (ho:Ows K O H0 ts 0 vs NoA):iV K O H0 (Itl K a) ts:=fun i H O1 h1 h2 h3=>by
 have sq:=(h.mv (cw h1 h2)).sq;refine ⟨fun t ht=>?_,fun hl=>⟨vs,sq,by rw [ho.len]; omega⟩⟩;obtain ⟨v,hv,ov⟩:=ho.get ht;refine ⟨⟨vs,v,sq,hv⟩,fun x H1 ⟨e,y⟩=>?_⟩;subst e;have e2:=y vs sq;rw [hv] at e2;cases e2;exact ⟨fun _ _ q=>q,Ow.mv (cw h1 h2) t (fun _ z=>z) ov⟩
def pE (h:FzT K O H0 a vs) (ho:Ows K O H0 ts 0 vs NoA):iV K O H0 (Itt K a) ts:=fun i H O1 h1 h2 h3=>by
 have sq:=(h.mv (cw h1 h2)).sq;refine ⟨fun t ht=>?_,fun hl=>⟨vs,sq,by rw [ho.len]; omega⟩⟩;obtain ⟨v,hv,ov⟩:=ho.get ht;refine ⟨⟨vs,v,sq,hv⟩,fun x H1 ⟨e,y⟩=>?_⟩;subst e;have e2:=y vs sq;rw [hv] at e2;cases e2;exact ⟨fun _ _ q=>q,Ow.mv (cw h1 h2) t (fun _ z=>z) ov⟩
def pF {z:Str}:iV K O H0 (Its z) ((li z).map fun c=>.str (mk1 c)):=fun i H O1 h1 h2 h3=>by
 refine ⟨fun t ht=>?_,fun hl=>?_⟩
 ·rw [zao] at ht;obtain ⟨c,hc,e⟩:=zab.mp ht;have hi:i < z.cps.size:=by
   have:=(zah.mp hc).1;simpa [li] using this
  have hc':z.cps[i]?=some c:=by
   have:z.cps.toList[i]?=some c:=hc;simpa using this
  refine ⟨hi,fun x H1 ⟨e1,c',e2,e3⟩=>?_⟩;subst e1 e e3;rw [hc'] at e2;cases e2;exact ⟨fun _ _ q=>q,rfl⟩
 ·have:z.cps.size=i:=by
   rw [zad] at hl;simpa [li] using hl
  show z.cps.size<=i;omega
def pG {lo:Int} {n:Nat}:iV K O H0 (Itr lo n) ((List.range n).map fun k=>.int (lo+(k:Nat))):=fun i H O1 h1 h2 h3=>by
 refine ⟨fun t ht=>?_,fun hl=>?_⟩
 ·rw [zao] at ht;obtain ⟨c,hc,e⟩:=zab.mp ht;have hi:=(zah.mp hc).1;rw [List.length_range] at hi;rw [List.getElem?_range hi] at hc;cases hc;refine ⟨hi,fun x H1 ⟨e1,e2⟩=>?_⟩;subst e1 e e2;exact ⟨fun _ _ q=>q,rfl⟩
 ·rw [zad,List.length_range] at hl;show n<=i;omega
def mo {t:D} {v:V} {i:Nat} {p:Addr} (hp:H p=none) (h3:∀ a,O1 a->∃ o,H a=some o) (ov:Ow K O1 H t 0 v NoA):(∀ a o,H a=some o->upd H p (.tup [.int i,v]) a=some o)/\Ow K O1 (upd H p (.tup [.int (i:Nat),v])) (.tuple [.int i,t]) 0 (.ref p) NoA:=by
 have g:=(bq (o:=.tup [.int i,v]) hp).1;refine ⟨g,p,[.int i,v],rfl,.inl ⟨rfl,⟨aF,fun z=>?_⟩,.int i,[v],NoA,NoA,rfl,fun _ z=>z,fun _ z=>z,fun _ z=>z.elim,rfl,v,[],NoA,NoA,rfl,fun _ z=>z,fun _ z=>z,fun _ z=>z.elim,?_,rfl⟩⟩
 ·obtain ⟨o,q⟩:=h3 p z;rw [hp] at q;cases q
 ·exact Ow.mv (G:=NoA) ⟨fun a o q _=>g a o q,fun a z=>.inl z⟩ t (fun _ z=>z) ov
def cf (ts:List D):List D:=ts.zipIdx.map fun p=>.tuple [.int (p.2:Nat),p.1]
def dw {i:Nat} {u:D} (h:(cf ts)[i]?=some u):∃ t,ts[i]?=some t/\u=.tuple [.int (i:Nat),t]:=by
 unfold cf at h;rw [zao] at h;obtain ⟨⟨t,k⟩,h1,h2⟩:=zab.mp h;rw [List.getElem?_zipIdx] at h1;obtain ⟨t',h3,h4⟩:=zab.mp h1;cases h4;refine ⟨t,h3,?_⟩;rw [<- h2,Nat.zero_add]
def cC:(cf ts).length=ts.length:=by unfold cf; rw [zad,List.length_zipIdx]
def nK (h:FzL K O H0 a vs) (ho:Ows K O H0 ts 0 vs NoA):iV K O H0 (Ite K a) (cf ts):=fun i H O1 h1 h2 h3=>by
 have sq:=(h.mv (cw h1 h2)).sq;refine ⟨fun u hu=>?_,fun hl=>⟨vs,sq,by rw [cC] at hl; rw [ho.len]; omega⟩⟩;obtain ⟨t,ht,rfl⟩:=dw hu;obtain ⟨v,hv,ov⟩:=ho.get ht;refine ⟨⟨vs,v,sq,hv⟩,fun x H1 ⟨p,v',e1,hp,e2,y⟩=>?_⟩;have e3:=y vs sq;rw [hv] at e3;cases e3;subst e1 e2;exact mo hp h3 (Ow.mv (cw h1 h2) t (fun _ z=>z) ov)
def mS (h:FzT K O H0 a vs) (ho:Ows K O H0 ts 0 vs NoA):iV K O H0 (ItT K a) (cf ts):=fun i H O1 h1 h2 h3=>by
 have sq:=(h.mv (cw h1 h2)).sq;refine ⟨fun u hu=>?_,fun hl=>⟨vs,sq,by rw [cC] at hl; rw [ho.len]; omega⟩⟩;obtain ⟨t,ht,rfl⟩:=dw hu;obtain ⟨v,hv,ov⟩:=ho.get ht;refine ⟨⟨vs,v,sq,hv⟩,fun x H1 ⟨p,v',e1,hp,e2,y⟩=>?_⟩;have e3:=y vs sq;rw [hv] at e3;cases e3;subst e1 e2;exact mo hp h3 (Ow.mv (cw h1 h2) t (fun _ z=>z) ov)
end
def bP (fa:MA):MI:=fun en=>(fa en).bind fun r=>match r.1 with
 | [.inl (.int j)]=>if -(2 ^ 62)<=j/\j < 2 ^ 62 then some ((List.range j.toNat).map fun k=>.int (0+(k:Nat)),r.2) else none
 | _=>none
def DU (fa:MA):MI:=fun en=>(fa en).bind fun r=>match r.1 with
 | [.inl (.int i),.inl (.int j)]=>if -(2 ^ 62)<=i/\i < 2 ^ 62/\-(2 ^ 62)<=j/\j < 2 ^ 62 then some ((List.range (j - i).toNat).map fun k=>.int (i+(k:Nat)),r.2) else none
 | _=>none
def eE (fa:MA):MI:=fun en=>(fa en).bind fun r=>match r.1 with
 | [.inl (.list ts)]=>some (cf ts,r.2)
 | [.inl (.tuple ts)]=>some (cf ts,r.2)
 | _=>none
section
variable {X:Cx} {K:PySem.W.Frag} {p:Bool} {ds ds1:List Nat} {d:Nat} {e tg l:Expr} {f:ME} {fa:MA} {sh:Sh}
def BO (hK:X.K=K) (hl:PE X l (tF K p ds ds1 d f)):PI X tg l (tFI K p ds ds1 (cG f)):=by
 subst hK;intro pins s σ H R I h;obtain ⟨Ox,en,Rg,ts,en',e,hf,k⟩:=h;unfold cG at hf;obtain ⟨⟨t,en1⟩,h1,hf⟩:=zaa.mp hf;obtain ⟨ts',h2,hf⟩:=zab.mp hf;cases hf;refine thn (hl pins s σ H (fun v H1=>∃ R1,Post X.K p ds1 Ox σ H en Rg en1 H1 R1 NoA/\Ow X.K (Own R1 Ox) H1 t 0 v NoA) I ⟨Ox,en,Rg,t,en1,e,h1,fun v H1 R1 F P o=>⟨R1,P.less fun _ z=>z.elim,Ow.letgo P (fun _ z=>z) o⟩⟩) fun v s1 ⟨x,H1,I1,r1,R1,P,o⟩=>?_;cases t with
 | list ts0 =>
  cases h2;obtain ⟨a,vs,e1,⟨_,fz,ow⟩ | ⟨z,_⟩⟩:=o
  ·subst e1;cases r1;obtain ⟨its,rv,pl,hz⟩:=I1.list fz.sq;refine wpAny_pyIter_list pl.isList ?_;refine ⟨s1.heap.objs.size,[s1.heap.objs.size],_,_,H1,rfl,I1.kept (t':=s1.toks) fun b o e=>zaf _ e,j1 a _,⟨_,zan _ rfl,rfl,rfl⟩,fun b hb=>?_,k _ H1 R1 P (nJ fz ow)⟩;have e:b=s1.heap.objs.size:=by simpa using hb
   subst e;exact I1.fpOk (zav _) (I1.hok.fresh (zav _))
  ·exact absurd rfl z
 | tuple ts0 =>
  cases h2;obtain ⟨a,vs,e1,⟨_,fz,ow⟩ | ⟨z,_⟩⟩:=o
  ·subst e1;cases r1;obtain ⟨its,rv,pl,hz⟩:=I1.tuple fz.sq;refine wpAny_pyIter_tuple (show s1.heap.IsTuple a its.toArray from pl) ?_;refine ⟨s1.heap.objs.size,[s1.heap.objs.size],_,_,H1,rfl,I1.kept (t':=s1.toks) fun b o e=>zaf _ e,mT a _,⟨_,zan _ rfl,rfl,rfl⟩,fun b hb=>?_,k _ H1 R1 P (pE fz ow)⟩;have e:b=s1.heap.objs.size:=by simpa using hb
   subst e;exact I1.fpOk (zav _) (I1.hok.fresh (zav _))
  ·exact absurd rfl z
 | str z =>
  cases h2;have e1:x=.str z:=o;subst e1;obtain ⟨t,rfl⟩:=r1;have fin:∀ (ty:String) (o:Obj),(ty="str_ascii_iterator"\/ty="str_iterator")->(s1.heap.push o).IsStrIter s1.heap.objs.size ty z t 0->PIE X pins σ tg R (.ref s1.heap.objs.size) { s1 with heap:=s1.heap.push o }:=fun ty o hty st=>by
   refine ⟨s1.heap.objs.size,[s1.heap.objs.size],_,_,H1,rfl,I1.kept (t':=s1.toks) fun b o e=>zaf _ e,pI _ z t ty hty,st,fun b hb=>?_,k _ H1 R1 P pF⟩;have e:b=s1.heap.objs.size:=by simpa using hb
   subst e;exact I1.fpOk (zav _) (I1.hok.fresh (zav _))
  cases ha:z.cps.all (· < 128)
  ·exact wpAny_pyIter_wide ha (fin _ _ (.inr rfl) ⟨_,zan _ rfl,rfl,rfl⟩)
  ·exact wpAny_pyIter_ascii ha (fin _ _ (.inl rfl) ⟨_,zan _ rfl,rfl,rfl⟩)
 | _=>cases h2
def xT {a:Expr} {px pos:Pos} (hg:Gl X "range") (hm:X.mg "range"=none) (ha:PA X [a] (tFA K p ds ds1 sh fa)) (hs:aG a=true):PI X tg (.Call (.Name "range" px) [a] [] pos) (tFI K p ds ds1 (bP fa)) :=
 (nX hg hm ha (br hs)).imp fun σ H R ⟨Ox,en,Rg,ts,en',e,hf,k⟩=>by
  unfold bP at hf;obtain ⟨⟨as,en1⟩,h1,hf⟩:=zaa.mp hf;refine ⟨Ox,en,Rg,as,en1,e,h1,fun vs H1 R1 F P o=>?_⟩
  dsimp only at hf
  split at hf
  case h_2=>cases hf
  next j =>
  by_cases hj:-(2 ^ 62)<=j/\j < 2 ^ 62
  case neg=>rw [if_neg hj] at hf; cases hf
  rw [if_pos hj] at hf;cases hf;obtain ⟨v,r,d,dr,F1,F2,e1,e2,_,_,_,o1,o2⟩:=o;obtain ⟨_,o2⟩:=o2;subst e1 o2;have ev:v=.int j:=o1;subst ev;exact ⟨j,rfl,hj.1,hj.2,k _ H1 R1 (P.less fun _ z=>z.elim) pG⟩
def xU {px pos:Pos} {elts:List Expr} {k:Nat} {tp:Pos} (hK:X.K=K) (hg:Gl X "enumerate") (hm:X.mg "enumerate"=none) (ha:PA X [l] (tFA K p ds ds1 sh fa)) (hs:starEach [l] X.env=[(false,eval l X.env)]) :
  PI X (.Tuple elts k tp) (.Call (.Name "enumerate" px) [l] [] pos) (tFI K p ds ds1 (eE fa)):=by
 subst hK;intro pins s σ H R I h;obtain ⟨Ox,en,Rg,ts,en',e,hf,k⟩:=h;unfold eE at hf;obtain ⟨⟨as,en1⟩,h1,hf⟩:=zaa.mp hf;refine Call_ (eB I hg hm boot_enumerate (PyProof.Rows.callWith_type1 (thn (ha pos pins s σ H (fun vs H1=>∃ R1 t v,as=[.inl t]/\vs=[v]/\Post X.K p ds1 Ox σ H en Rg en1 H1 R1 NoA/\Ow X.K (Own R1 Ox) H1 t 0 v NoA) I ⟨Ox,en,Rg,as,en1,e,h1,fun vs H1 R1 F P o=>?_⟩) fun us s1 ⟨vs,H1,I1,r1,R1,t,v,ea,ev,P,o⟩=>?_) hs rfl))
 ·have one:∃ t,as=[.inl t]:=by
   dsimp only at hf
   split at hf
   ·exact ⟨_,rfl⟩
   ·exact ⟨_,rfl⟩
   ·cases hf
  obtain ⟨t,rfl⟩:=one;obtain ⟨v,r,d,dr,F1,F2,e1,e2,s1,_,_,o1,o2⟩:=o;obtain ⟨_,o2⟩:=o2;subst o2;exact ⟨R1,t,v,rfl,e1,P.less fun _ z=>z.elim,Ow.letgo P s1 o1⟩
 subst ea ev;obtain ⟨u,rfl,ru⟩:=eT r1;cases t with
 | list ts0 =>
  cases hf;obtain ⟨a,vs,e1,⟨_,fz,ow⟩ | ⟨z,_⟩⟩:=o
  ·subst e1;cases ru;obtain ⟨its,rv,pl,hz⟩:=I1.list fz.sq;refine call_enumerate_list pl.isList fun h' hE hI hsz hk=>?_;refine wpAny_pyIter_enum hE ?_;have I2:Inv X pins σ H1 { s1 with heap:=h' }:=I1.kept (t':=s1.toks) hk;refine ⟨s1.heap.objs.size+1,[s1.heap.objs.size+1,s1.heap.objs.size],_,_,H1,rfl,I2,nN a _ _ (Nat.succ_ne_self _),⟨⟨_,hE⟩,hI⟩,fun b hb=>?_,k _ H1 R1 P (nK fz ow)⟩;have hb':b=s1.heap.objs.size+1\/b=s1.heap.objs.size:=by simpa using hb
   rcases hb' with rfl | rfl
   ·exact I1.fpOk (Nat.le_succ _) (I1.hok.fresh (Nat.le_succ _))
   ·exact I1.fpOk (zav _) (I1.hok.fresh (zav _))
  ·exact absurd rfl z
 | tuple ts0 =>
  cases hf;obtain ⟨a,vs,e1,⟨_,fz,ow⟩ | ⟨z,_⟩⟩:=o
  ·subst e1;cases ru;obtain ⟨its,rv,pt,hz⟩:=I1.tuple fz.sq;have hT:s1.heap.IsTuple a its.toArray:=pt;have hlt:a < s1.heap.objs.size:=by
    obtain ⟨o,e1,_⟩:=id hT;exact zal e1
   refine kw hT fun h' hE hI hsz hk=>?_;refine wpAny_pyIter_enum hE ?_;have I2:Inv X pins σ H1 { s1 with heap:=h' }:=I1.kept (t':=s1.toks) hk;refine ⟨s1.heap.objs.size+1,[s1.heap.objs.size+1,s1.heap.objs.size],_,_,H1,rfl,I2,mV a _ _ (Nat.succ_ne_self _) (zaw hlt),⟨⟨_,hE⟩,hI⟩,fun b hb=>?_,k _ H1 R1 P (mS fz ow)⟩;have hb':b=s1.heap.objs.size+1\/b=s1.heap.objs.size:=by simpa using hb
   rcases hb' with rfl | rfl
   ·exact I1.fpOk (Nat.le_succ _) (I1.hok.fresh (Nat.le_succ _))
   ·exact I1.fpOk (zav _) (I1.hok.fresh (zav _))
  ·exact absurd rfl z
 | _=>cases hf
end
def NewTo.refl {H:Hp}:NewTo H H NoA:=⟨fun _ _ q=>q,fun _ z=>z.elim⟩
def OpR.imp {X:Cx} {fn:Value->Value->Sem Value} {r r':R2} (h:OpR X fn r) (hi:∀ x y H Q,r' x y H Q->r x y H Q):OpR X fn r':=fun pins s σ H x y v u Q I rx ry q=>h pins s σ H x y v u Q I rx ry (hi _ _ _ _ q)
def OpR.or' {X:Cx} {fn:Value->Value->Sem Value} {r r':R2} (h:OpR X fn r) (h':OpR X fn r'):OpR X fn (fun x y H Q=>r x y H Q\/r' x y H Q):=fun pins s σ H x y v u Q I rx ry q=>q.elim (h pins s σ H x y v u Q I rx ry) (h' pins s σ H x y v u Q I rx ry)
def CallR.imp {X:Cx} {fn:Value} {r r':List V->Hp->VK->Prop} (h:CallR X fn r) (hi:∀ x H Q,r' x H Q->r x H Q):CallR X fn r':=fun pins s σ H x v Q I rx q=>h pins s σ H x v Q I rx (hi _ _ _ q)
def CallR.or' {X:Cx} {fn:Value} {r r':List V->Hp->VK->Prop} (h:CallR X fn r) (h':CallR X fn r'):CallR X fn (fun x H Q=>r x H Q\/r' x H Q):=fun pins s σ H x v Q I rx q=>q.elim (h pins s σ H x v Q I rx) (h' pins s σ H x v Q I rx)
def IxR.imp {X:Cx} {r r':R2} (h:IxR X r) (hi:∀ x y H Q,r' x y H Q->r x y H Q):IxR X r':=fun value slice pins s σ H x y v u Q I rx ry q=>h value slice pins s σ H x y v u Q I rx ry (hi _ _ _ _ q)
section
variable {X:Cx} {K:PySem.W.Frag} {O:AS} {H:Hp} {ts us:List D} {vs ws:List V} {x y:V} {d:Nat} {Q:VK}
def bc {l:Addr} (hl:H l=none) (hd:∀ a,O a->∃ o,H a=some o) (h:Ows K O H ts 0 vs NoA):NewTo H (upd H l (.lst vs)) (fun b=>b=l)/\Ow K (U (fun b=>b=l) O) (upd H l (.lst vs)) (.list ts) 1 (.ref l) (fun b=>b=l):=by
 refine ⟨bq hl,l,vs,rfl,.inr ⟨by decide,aF,rfl,NoA,fun _ z=>z.elim,?_⟩⟩;refine Ows.mv (G:=NoA) ⟨fun a o q _=>(bq (o:=.lst vs) hl).1 a o q,fun a z=>?_⟩ ts (fun _ z=>z) h;rcases z with z | z
 ·exact .inr (by rw [show a=l from z]; exact hl)
 ·exact .inl z
def Ows.app:∀ {ts:List D} {vs:List V},Ows K O H ts 0 vs NoA->Ows K O H us 0 ws NoA->Ows K O H (ts++us) 0 (vs++ws) NoA
 | [],_,h,h2=>by rw [show _=[] from h]; exact h2
 | t :: ts,_,h,h2=>by
  obtain ⟨v,r,F1,F2,e,_,_,_,h4,h5⟩:=h;subst e;exact ⟨v,r++ws,NoA,NoA,rfl,fun _ z=>z,fun _ z=>z,fun _ z=>z.elim,Ow.any0 t h4,Ows.app (Ows.any0 ts h5) h2⟩
def Ows.drop:∀ {ts:List D} {vs:List V} (n:Nat),Ows K O H ts 0 vs NoA->Ows K O H (ts.drop n) 0 (vs.drop n) NoA
 | ts,vs,0,h=>h
 | [],_,n+1,h=>by rw [show _=[] from h]; rfl
 | t :: ts,_,n+1,h=>by
  obtain ⟨v,r,F1,F2,e,_,_,_,h4,h5⟩:=h;subst e;exact Ows.drop n (Ows.any0 ts h5)
def Ows.take:∀ {ts:List D} {vs:List V} (n:Nat),Ows K O H ts 0 vs NoA->Ows K O H (ts.take n) 0 (vs.take n) NoA
 | ts,vs,0,h=>rfl
 | [],_,n+1,h=>by rw [show _=[] from h]; rfl
 | t :: ts,_,n+1,h=>by
  obtain ⟨v,r,F1,F2,e,_,_,_,h4,h5⟩:=h;subst e;exact ⟨v,r.take n,NoA,NoA,rfl,fun _ z=>z,fun _ z=>z,fun _ z=>z.elim,Ow.any0 t h4,Ows.take n (Ows.any0 ts h5)⟩
def Ow.lst0 {v:V} (h:Ow K O H (.list ts) 0 v NoA):∃ a vs,v=.ref a/\FzL K O H a vs/\Ows K O H ts 0 vs NoA:=by
 obtain ⟨a,vs,e,⟨_,h1,h2⟩ | ⟨z,_⟩⟩:=h
 ·exact ⟨a,vs,e,h1,h2⟩
 ·exact absurd rfl z
def Ow.tup0 {v:V} (h:Ow K O H (.tuple ts) 0 v NoA):∃ a vs,v=.ref a/\FzT K O H a vs/\Ows K O H ts 0 vs NoA:=by
 obtain ⟨a,vs,e,⟨_,h1,h2⟩ | ⟨z,_⟩⟩:=h
 ·exact ⟨a,vs,e,h1,h2⟩
 ·exact absurd rfl z
def Ows.one {t:D} (h:Ows K O H [t] 0 vs NoA):∃ v,vs=[v]/\Ow K O H t 0 v NoA:=by
 obtain ⟨v,r,F1,F2,e,_,_,_,h4,h5⟩:=h;rw [show r=[] from h5] at e;exact ⟨v,e,Ow.any0 t h4⟩
def Ows.two {t t2:D} (h:Ows K O H [t,t2] 0 vs NoA):∃ v w,vs=[v,w]/\Ow K O H t 0 v NoA/\Ow K O H t2 0 w NoA:=by
 obtain ⟨v,r,F1,F2,e,_,_,_,h4,h5⟩:=h;obtain ⟨w,e2,h6⟩:=Ows.one (Ows.any0 [t2] h5);subst e2;exact ⟨v,w,e,Ow.any0 t h4,h6⟩
def aZ:D->D->Option D
 | .int a,.int b=>some (.int (a+b))
 | .str a,.str b=>if a.length+b.length<=sizeLine then some (.str (a++b)) else none
 | _,_=>none
def bh:OpR X (binaryOp .Add) (rF2 K aZ 3):=(op_add.or' m4).imp fun x y H Q ⟨O,a,b,t,oa,ob,hd,hg,k⟩=>by
 cases a with
 | int i=>cases b with
  | int j=>cases hg; exact .inl ⟨i,j,oa,ob,k _ H NoA .refl rfl⟩
  | _=>cases hg
 | str i=>cases b with
  | str j =>
   dsimp only [aZ] at hg
   by_cases hl:i.length+j.length<=sizeLine
   ·rw [if_pos hl] at hg; cases hg; exact .inr ⟨i,j,oa,ob,hl,k _ H NoA .refl rfl⟩
   ·rw [if_neg hl] at hg; cases hg
  | _=>cases hg
 | _=>cases hg
def fc (g:Int->Int->Option D):D->D->Option D
 | .int a,.int b=>g a b
 | _,_=>none
def bO {g:Int->Int->Option D} {a b t:D} (h:fc g a b=some t):∃ i j,a=.int i/\b=.int j/\g i j=some t:=by
 cases a with
 | int i=>cases b with
  | int j=>exact ⟨i,j,rfl,rfl,h⟩
  | _=>cases h
 | _=>cases h
def fR:D->D->Option D:=fc fun a b=>some (.int (a - b))
def jl:OpR X (binaryOp .Sub) (rF2 K fR 3):=op_sub.imp fun x y H Q ⟨O,a,b,t,oa,ob,hd,hg,k⟩=>by
 obtain ⟨i,j,rfl,rfl,h⟩:=bO hg;cases h;exact ⟨i,j,oa,ob,k _ H NoA .refl rfl⟩
instance (i j:Int):Decidable (CMul i j):=by unfold CMul; exact inferInstance
instance (i j:Int):Decidable (iZ i j):=by unfold iZ; exact inferInstance
instance (i j:Int):Decidable (fA i j):=by unfold fA; exact inferInstance
def bK:D->D->Option D:=fc fun a b=>if CMul a b then some (.int (a * b)) else none
def fJ:OpR X (binaryOp .Mult) (rF2 K bK 3):=op_mul.imp fun x y H Q ⟨O,a,b,t,oa,ob,hd,hg,k⟩=>by
 obtain ⟨i,j,rfl,rfl,h⟩:=bO hg;by_cases hc:CMul i j
 ·rw [if_pos hc] at h; cases h; exact ⟨i,j,oa,ob,hc,k _ H NoA .refl rfl⟩
 ·rw [if_neg hc] at h; cases h
def e6:D->D->Option D:=fc fun a b=>if iZ a b then some (.int (a / b)) else none
def iy:OpR X (binaryOp .FloorDiv) (rF2 K e6 3):=op_fdiv.imp fun x y H Q ⟨O,a,b,t,oa,ob,hd,hg,k⟩=>by
 obtain ⟨i,j,rfl,rfl,h⟩:=bO hg;by_cases hc:iZ i j
 ·rw [if_pos hc] at h; cases h; exact ⟨i,j,oa,ob,hc,k _ H NoA .refl rfl⟩
 ·rw [if_neg hc] at h; cases h
def bn:D->D->Option D:=fc fun a b=>if 0 < b then some (.int (a % b)) else none
def cb:OpR X (binaryOp .Mod) (rF2 K bn 3):=op_mod.imp fun x y H Q ⟨O,a,b,t,oa,ob,hd,hg,k⟩=>by
 obtain ⟨i,j,rfl,rfl,h⟩:=bO hg;by_cases hc:0 < j
 ·rw [if_pos hc] at h; cases h; exact ⟨i,j,oa,ob,hc,k _ H NoA .refl rfl⟩
 ·rw [if_neg hc] at h; cases h
def jE:D->D->Option D:=fc fun a b=>if fA a b then some (.int (a ^ b.toNat)) else none
def BK:OpR X (binaryOp .Pow) (rF2 K jE 3):=op_pow.imp fun x y H Q ⟨O,a,b,t,oa,ob,hd,hg,k⟩=>by
 obtain ⟨i,j,rfl,rfl,h⟩:=bO hg;by_cases hc:fA i j
 ·rw [if_pos hc] at h; cases h; exact ⟨i,j,oa,ob,hc,k _ H NoA .refl rfl⟩
 ·rw [if_neg hc] at h; cases h
def ltI:D->D->Option D:=fc fun a b=>some (.bool (decide (a < b)))
def leI:D->D->Option D:=fc fun a b=>some (.bool (decide (a<=b)))
def gtI:D->D->Option D:=fc fun a b=>some (.bool (decide (b < a)))
def geI:D->D->Option D:=fc fun a b=>some (.bool (decide (b<=a)))
def CY:OpR X (compareOp .Lt) (rF2 K ltI 3):=op_lt.imp fun x y H Q ⟨O,a,b,t,oa,ob,hd,hg,k⟩=>by
 obtain ⟨i,j,rfl,rfl,h⟩:=bO hg;cases h;exact ⟨i,j,oa,ob,k _ H NoA .refl rfl⟩
def jm:OpR X (compareOp .Gt) (rF2 K gtI 3):=op_gt.imp fun x y H Q ⟨O,a,b,t,oa,ob,hd,hg,k⟩=>by
 obtain ⟨i,j,rfl,rfl,h⟩:=bO hg;cases h;exact ⟨i,j,oa,ob,k _ H NoA .refl rfl⟩
def C0:OpR X (compareOp .GtE) (rF2 K geI 3):=op_ge.imp fun x y H Q ⟨O,a,b,t,oa,ob,hd,hg,k⟩=>by
 obtain ⟨i,j,rfl,rfl,h⟩:=bO hg;cases h;exact ⟨i,j,oa,ob,k _ H NoA .refl rfl⟩
def jI:D->Bool
 | .none=>true
 | _=>false
def qj {a:D} {F:AS} (h:Ow K O H a d x F):decide (x=.non)=jI a:=by
 cases a with
 | none=>rw [show x=.non from h]; rfl
 | bool b=>rw [show x=.bl b from h]; rfl
 | int b=>rw [show x=.int b from h]; rfl
 | str b=>rw [show x=.str b from h]; rfl
 | list ts=>obtain ⟨a,vs,e,_⟩:=h; rw [e]; rfl
 | tuple ts=>obtain ⟨a,vs,e,_⟩:=h; rw [e]; rfl
 | dict ts=>obtain ⟨a,vs,e,_⟩:=h; rw [e]; rfl
def isN:D->D->Option D
 | a,.none=>some (.bool (jI a))
 | _,_=>none
def eo:D->D->Option D
 | a,.none=>some (.bool (!jI a))
 | _,_=>none
def jJ:OpR X (compareOp .IsNot) (rF2 K eo 3):=op_notN.imp fun x y H Q ⟨O,a,b,t,oa,ob,hd,hg,k⟩=>by
 cases b with
 | none=>cases hg; exact ⟨ob,by rw [qj oa]; exact k _ H NoA .refl rfl⟩
 | _=>cases hg
def Ek:D->D->Option D
 | .str a,.str b=>some (.bool (oH b a))
 | _,_=>none
def DN:D->D->Option D
 | .str a,.str b=>some (.bool (!oH b a))
 | _,_=>none
def ixA:D->D->Option D
 | .list ts,.int n=>atI ts n
 | .tuple ts,.int n=>atI ts n
 | .str z,.int n=>if z.length<=sizeLine then (atI z.cps.toList n).map fun c=>.str (mk1 c) else none
 | _,_=>none
def iw (hK:X.K=K):IxR X (rF2 K ixA 0):=by
 subst hK;refine ix_seq.imp fun x y H Q ⟨O,a,b,t,oa,ob,hd,hg,k⟩=>?_;cases b with
 | int n =>
  cases a with
  | list ts =>
   obtain ⟨a,vs,e,fz,ow⟩:=oa.lst0;obtain ⟨v,h1,h2⟩:=ow.atI hg;exact .inl ⟨a,vs,n,v,e,ob,fz.sq,h1,k v H NoA .refl (by rw [eJ]; exact h2)⟩
  | tuple ts =>
   obtain ⟨a,vs,e,fz,ow⟩:=oa.tup0;obtain ⟨v,h1,h2⟩:=ow.atI hg;exact .inr (.inl ⟨a,vs,n,v,e,ob,fz.sq,h1,k v H NoA .refl (by rw [eJ]; exact h2)⟩)
  | str z =>
   dsimp only [ixA] at hg
   by_cases hl:z.length<=sizeLine
   ·rw [if_pos hl] at hg;obtain ⟨c,h1,h2⟩:=zab.mp hg;cases h2;exact .inr (.inr ⟨z,n,c,oa,ob,hl,h1,k _ H NoA .refl rfl⟩)
   ·rw [if_neg hl] at hg; cases hg
  | _=>cases hg
 | _=>cases a <;> cases hg
def ixT:D->D->Option D
 | .str z,.int n=>if z.length<=sizeLine then (atI z.cps.toList n).map fun c=>.str (mk1 c) else none
 | _,_=>none
def lH:D->D->Option D
 | .list a,.list b=>if a.length+b.length<=sizeLine then some (.list (a++b)) else none
 | _,_=>none
def Es:D->D->Option D
 | .tuple a,.tuple b=>if a.length+b.length<=sizeLine then some (.tuple (a++b)) else none
 | _,_=>none
end
def grd {α:Type} (c:Prop) [Decidable c] (t:α):Option α:=if c then some t else none
def bQ {α:Type} {c:Prop} [Decidable c] {t u:α} (h:grd c t=some u):c/\t=u:=by
 unfold grd at h;by_cases hc:c
 ·rw [if_pos hc] at h; exact ⟨hc,zat h⟩
 ·rw [if_neg hc] at h; cases h
section
variable {X:Cx} {K:PySem.W.Frag} {O:AS} {H:Hp} {ts us:List D} {vs ws:List V} {x y:V} {d:Nat} {Q:VK}
def CB (K:PySem.W.Frag):R2:=fun x y H Q=>∃ l b xs zs,x=.ref l/\y=.ref b/\SqL K H l xs/\SqL K H b zs/\xs.length+zs.length<=sizeLine/\∀ p,H p=none->Q (.ref p) (upd H p (.lst (xs++zs)))
def op_catL:OpR X (binaryOp .Add) (CB X.K):=by
 intro pins s σ H x y v u Q I rx ry h;obtain ⟨l,b,xs,zs,rfl,rfl,hH,hB,hz,q⟩:=h;cases rx;cases ry;obtain ⟨its,r,⟨⟨c1,dd,da1,sl⟩,n,ho,hc,hdd,hda⟩,_⟩:=I.list hH;obtain ⟨its2,r2,⟨⟨c2,dd2,da2,sl2⟩,n2,ho2,hc2,hdd2,hda2⟩,_⟩:=I.list hB;have hl:=r.length;have hl2:=r2.length;simp only at hc hda hc2 hda2;subst hc hda hc2 hda2;refine concat_meets ⟨_,ho,rfl⟩ ⟨_,ho2,rfl⟩ noFill_list_add seq_list_add PySem.F.slot_list_add PySem.F.entry_list_add (PySem.F.args_list_add_2 _ _) (list_addW l b its.toArray its2.toArray n n2 dd dd2 sl sl2 (by simp only [zai]; omega)) ⟨ho,ho2,?_⟩;have ea:its.toArray++its2.toArray=(its++its2).toArray:=by simp
 rw [ea];exact ⟨.ref _,_,I.lnew (t':=s.toks) (r.append r2) (by rw [zae]; omega),rfl,q _ I.fresh⟩
def mG (hK:X.K=K):OpR X (binaryOp .Add) (rF2 K lH 1):=by
 subst hK;refine op_catL.imp fun x y H Q ⟨O,a,b,t,oa,ob,hd,hg,k⟩=>?_;cases a with
 | list ts=>cases b with
  | list us =>
   dsimp only [lH] at hg
   by_cases hl:ts.length+us.length<=sizeLine
   case neg=>rw [if_neg hl] at hg; cases hg
   rw [if_pos hl] at hg;cases hg;obtain ⟨a,vs,e1,f1,w1⟩:=oa.lst0;obtain ⟨b,ws,e2,f2,w2⟩:=ob.lst0;refine ⟨a,b,vs,ws,e1,e2,f1.sq,f2.sq,by rw [w1.len,w2.len]; exact hl,fun p hp=>?_⟩;obtain ⟨n1,n2⟩:=bc hp hd (w1.app w2);exact k _ _ _ n1 n2
  | _=>cases hg
 | _=>cases hg
def Ei:D->D->Option D
 | .list ts,.int k=>grd (-(2 ^ 63)<=k/\k < 2 ^ 63/\ts.length * k.toNat<=sizeLine) (.list (List.replicate k.toNat ts).flatten)
 | _,_=>none
def Eh:D->D->Option D
 | .str z,.int k=>grd (z.length<=4000/\-(2 ^ 63)<=k/\k<=4000) (.str (Txt.mul z k))
 | _,_=>none
def Ef:D->Option D
 | .int i=>some (.int (-i))
 | _=>none
def bC:List D->Option D
 | [.list ts]=>some (.int ts.length)
 | [.tuple ts]=>some (.int ts.length)
 | [.str z]=>grd (z.length<=sizeLine) (.int z.length)
 | _=>none
def BL (hK:X.K=K):CallR X (.builtin "len") (rFn K bC 3):=(DB hK).imp fun xs H Q ⟨O,as,t,oa,hd,hg,k⟩=>by
 match as,hg with
 | [.list ts],hg =>
  cases hg;obtain ⟨v,rfl,o⟩:=oa.one;obtain ⟨a,vs,rfl,fz,w⟩:=o.lst0;exact ⟨_,_,rfl,.inl ⟨vs,fz.sq,rfl⟩,by rw [w.len]; exact k _ H NoA .refl rfl⟩
 | [.tuple ts],hg =>
  cases hg;obtain ⟨v,rfl,o⟩:=oa.one;obtain ⟨a,vs,rfl,fz,w⟩:=o.tup0;exact ⟨_,_,rfl,.inr ⟨vs,fz.sq,rfl⟩,by rw [w.len]; exact k _ H NoA .refl rfl⟩
 | [.str z],hg =>
  obtain ⟨c,rfl⟩:=bQ hg;obtain ⟨v,rfl,o⟩:=oa.one;exact ⟨_,_,rfl,by rw [show v=.str z from o]; exact ⟨c,rfl⟩,k _ H NoA .refl rfl⟩
def gp:List D->Option D
 | [.int i]=>some (.int (if i < 0 then -i else i))
 | _=>none
def oU:CallR X (.builtin "abs") (rFn K gp 3):=call_abs.imp fun xs H Q ⟨O,as,t,oa,hd,hg,k⟩=>by
 match as,hg with
 | [.int i],hg =>
  cases hg;obtain ⟨v,rfl,o⟩:=oa.one;exact ⟨i,by rw [show v=.int i from o],k _ H NoA .refl rfl⟩
def m7:List D->Option D
 | [.int i,.int j]=>some (.int (if j > i then j else i))
 | _=>none
def D4:List D->Option D
 | [.int i,.int j]=>some (.int (if j < i then j else i))
 | _=>none
def xQ (hc:X.calm=true):CallR X (.builtin "max") (rFn K m7 3):=(pz hc).imp fun xs H Q ⟨O,as,t,oa,hd,hg,k⟩=>by
 match as,hg with
 | [.int i,.int j],hg =>
  cases hg;obtain ⟨v,w,rfl,o,o2⟩:=oa.two;exact ⟨i,j,by rw [show v=.int i from o,show w=.int j from o2],k _ H NoA .refl rfl⟩
def Ej:List D->Option D
 | [.int i]=>some (.int i)
 | [.bool b]=>some (.int (if b then 1 else 0))
 | _=>none
def il (z:Str):List D:=(li z).map fun c=>.str (mk1 c)
def kU {z:Str}:Ows K O H (il z) 0 (bX z) NoA:=by
 unfold il bX;show Ows K O H ((li z).map fun c=>.str (mk1 c)) 0 ((li z).map sgn) NoA;generalize li z=l
 induction l with
 | nil=>rfl
 | cons c r ih=>exact ⟨sgn c,r.map sgn,NoA,NoA,rfl,fun _ z=>z,fun _ z=>z,fun _ z=>z.elim,rfl,ih⟩
def fX:List D->Option D
 | [.list ts]=>some (.list ts)
 | [.tuple ts]=>some (.list ts)
 | [.str z]=>grd (z.cps.size<=sizeLine) (.list (il z))
 | _=>none
def jK (hK:X.K=K) (hc:X.calm=true):CallR X (.type "list") (rFn K fX 1):=((xo hK).or' (jT hc)).imp fun xs H Q ⟨O,as,t,oa,hd,hg,k⟩=>by
 match as,hg with
 | [.list ts],hg =>
  cases hg;obtain ⟨v,rfl,o⟩:=oa.one;obtain ⟨a,vs,rfl,fz,w⟩:=o.lst0;exact .inl ⟨a,vs,rfl,.inl fz.sq,fun l hl=>k _ _ _ (bc hl hd w).1 (bc hl hd w).2⟩
 | [.tuple ts],hg =>
  cases hg;obtain ⟨v,rfl,o⟩:=oa.one;obtain ⟨a,vs,rfl,fz,w⟩:=o.tup0;exact .inl ⟨a,vs,rfl,.inr fz.sq,fun l hl=>k _ _ _ (bc hl hd w).1 (bc hl hd w).2⟩
 | [.str z],hg =>
  obtain ⟨c,rfl⟩:=bQ hg;obtain ⟨v,rfl,o⟩:=oa.one;exact .inr ⟨z,by rw [show v=.str z from o],c,fun l hl=>k _ _ _ (bc (K:=K) hl hd kU).1 (bc hl hd kU).2⟩
def D9:List D->Option D
 | [.list ts]=>some (.tuple ts)
 | [.tuple ts]=>some (.tuple ts)
 | _=>none
def mM:List D->Option (List Bool)
 | []=>some []
 | .bool b :: r=>(mM r).map (b :: ·)
 | _ :: _=>none
def Er:List D->Option D
 | [.list ts]=>(mM ts).map fun bs=>.bool (bs.all id)
 | _=>none
def tyN:D->String
 | .none=>"NoneType" | .bool _=>"bool" | .int _=>"int" | .str _=>"str" | .list _=>"list" | .tuple _=>"tuple" | .dict _=>"dict"
def aA (n T:String):Bool:=n == T || (n == "bool" && T == "int")
def mx {T:String} (hT:T∈["int", "bool", "str", "list", "tuple", "dict"]) (a:D):PySem.W.kitOne K (.type (tyN a)) (.type T)=some (aA (tyN a) T):=by
 simp only [zay,List.not_mem_nil,or_false] at hT;rcases hT with rfl | rfl | rfl | rfl | rfl | rfl <;> cases a <;> rfl
def isX:D->Bool
 | .dict [(.none,.str _)]=>true
 | _=>false
def CA (K:PySem.W.Frag):List V->Hp->VK->Prop:=fun xs H Q=>∃ x T,∃ (O:AS) (a:D),xs=[x,.ty T]/\Ow K O H a 0 x NoA/\isX a=false/\T∈["int", "bool", "str", "list", "tuple", "dict"]/\Q (.bl (aA (tyN a) T)) H
def pA:CallR X (.builtin "isinstance") (CA X.K):=by
 intro pins s σ H xs us Q I r h;obtain ⟨x,T,O,a,rfl,oa,hX,hT,q⟩:=h;have base:∀ ty,TyOf X.K H x (.type ty)->tyN a=ty->wpAny (model X.prog X.w) X.A (call (.builtin "isinstance") us) (EP X pins σ Q) X.xe s:=fun ty h1 h2=>by
  refine qN pins s σ H _ us Q I r ⟨x,.type ty,T,aA (tyN a) T,rfl,h1,?_,q⟩;rw [<- h2];exact mx hT a
 cases a with
 | none=>exact base _ (by rw [show x=.non from oa]; exact .non) rfl
 | bool b=>exact base _ (by rw [show x=.bl b from oa]; exact .bl b) rfl
 | int b=>exact base _ (by rw [show x=.int b from oa]; exact .int b) rfl
 | str b=>exact base _ (by rw [show x=.str b from oa]; exact .str b) rfl
 | tuple ts =>
  obtain ⟨p,vs,rfl,fz,w⟩:=oa.tup0;exact base _ (.tup fz.1) rfl
 | dict ts =>
  obtain ⟨p,vs,rfl,⟨_,h1,_⟩ | ⟨_,h1,_⟩ | ⟨_,⟨kk,b,_,h1,_⟩ | ⟨cn,C,h0,_⟩⟩⟩:=oa
  ·exact base _ (.dK h1) rfl
  ·exact base _ (.dK h1) rfl
  ·exact base _ (.dT h1) rfl
  ·subst h0; cases hX
 | list ts =>
  obtain ⟨p,vs,rfl,fz,w⟩:=oa.lst0;obtain ⟨u,u2,rfl,r1,r2⟩:=r.two;cases r1;cases r2;obtain ⟨its,rv,pl,_⟩:=I.list fz.sq;have e:=mx (K:=X.K) hT (.list ts);obtain ⟨o,n,h1,h2,_⟩:=pl;exact PySem.W.kia_one PySem.W.kitx_list I.kIn ⟨o,h1,h2⟩ e (fun z=>nomatch z) fun tk=>⟨.bl _,H,I.tok tk,rfl,q⟩
end
def az (T:String):D->Option D:=fun a=>if isX a=true then none else some (.bool (aA (tyN a) T))
section
variable {X:Cx} {K:PySem.W.Frag} {p:Bool} {ds ds1:List Nat} {d1:Nat} {e:Expr} {f:ME}
def B1 {T:Str} {n:String} {px pt pos:Pos} (hK:X.K=K) (hg:Gl X "isinstance") (hm:X.mg "isinstance"=none) (hgT:Gl X T) (hmT:X.mg T=none) (hbT:bootBuiltins T=some (.type n)) (hT:n∈["int", "bool", "str", "list", "tuple", "dict"]) (he:PE X e (tF K p ds ds1 d1 f))
  (hnT:T≠"__name__") (hdT:(T == ("__debug__" : Str))=false)
  (hs1:starEach [e,.Name T pt] X.env=(false,eval e X.env) :: starEach [.Name T pt] X.env) (hs2:starEach [.Name T pt] X.env=(false,eval (.Name T pt) X.env) :: starEach [] X.env) (hpl:(backTo pos (starEach [.Name T pt] X.env)).any (·.1)=false) :
  PE X (.Call (.Name "isinstance" px) [e,.Name T pt] [] pos) (tF K p ds ds1 3 (e1 (az n) f)):=by
 subst hK;refine (kS pA hg hm boot_isinstance (cV he (cV (xf (v:=.ty n) hgT hmT hbT rfl hnT hdT) pa_nil hs2) hs1) (by decide) (by decide) hs1 hpl).imp fun σ H Q h=>?_;obtain ⟨Ox,en,R,t,en',e,hf,k⟩:=h;unfold e1 at hf;obtain ⟨⟨t1,en1⟩,h1,hf⟩:=zaa.mp hf;obtain ⟨t',h3,hf⟩:=zab.mp hf;cases hf;unfold az at h3;by_cases hX:isX t1=true
 ·rw [if_pos hX] at h3; cases h3
 rw [if_neg hX] at h3;cases h3;refine ⟨Ox,en,R,t1,en1,e,h1,fun v H' R' F P o=>?_⟩;exact ⟨v,n,Own R' Ox,t1,rfl,Ow.letgo P (fun _ z=>z) o,Bool.eq_false_iff.mpr hX,hT,k _ H' R' NoA (P.less fun _ z=>z.elim) rfl⟩
end
mutual
def peq:D->D->Bool
 | .none,.none=>true
 | .bool a,.bool b=>a == b
 | .bool a,.int b=>(if a then (1:Int) else 0) == b
 | .int a,.bool b=>a == (if b then (1:Int) else 0)
 | .int a,.int b=>a == b
 | .str a,.str b=>a == b
 | .list a,.list b=>cv a b
 | .tuple a,.tuple b=>cv a b
 | _,_=>false
def cv:List D->List D->Bool
 | [],[]=>true
 | a :: r,b :: s=>peq a b && cv r s
 | _,_=>false
end
mutual
def aj:D->Bool
 | .dict _=>false
 | .list ts=>au ts
 | .tuple ts=>au ts
 | _=>true
def au:List D->Bool
 | []=>true
 | t :: r=>aj t && au r
end
mutual
theorem ei:∀ a:D,aj a=true->peq a a=true
 | .none,_=>rfl
 | .bool b,_=>by cases b <;> rfl
 | .int i,_=>by simp [peq]
 | .str i,_=>by simp [peq]
 | .list ts,h=>by simp only [peq]; exact gK ts (by simpa [aj] using h)
 | .tuple ts,h=>by simp only [peq]; exact gK ts (by simpa [aj] using h)
 | .dict _,h=>by simp [aj] at h
theorem gK:∀ a:List D,au a=true->cv a a=true
 | [],_=>rfl
 | t :: r,h=>by
  have h':aj t=true/\au r=true:=by simpa [au] using h
  simp only [cv,ei t h'.1,gK r h'.2,Bool.and_self]
end
mutual
def a7:D->Nat
 | .list ts=>aU ts+1
 | .tuple ts=>aU ts+1
 | _=>0
def aU:List D->Nat
 | []=>0
 | t :: r=>max (a7 t) (aU r)
end
def hU:∀ {ts:List D} {i:Nat} {t:D},ts[i]?=some t->a7 t<=aU ts
 | [],_,_,h=>by simp at h
 | u :: r,i,t,h=>by
  simp only [aU];cases i with
  | zero=>simp at h; subst h; exact Nat.le_max_left _ _
  | succ i=>exact zau (hU (by simpa using h)) (Nat.le_max_right _ _)
def b9:∀ {ts:List D} {i:Nat} {t:D},au ts=true->ts[i]?=some t->aj t=true
 | [],_,_,_,h=>by simp at h
 | u :: r,i,t,hn,h=>by
  have h':aj u=true/\au r=true:=by simpa [au] using hn
  cases i with
  | zero=>simp at h; subst h; exact h'.1
  | succ i=>exact b9 h'.2 (by simpa using h)
def iM:∀ {a b:List D},a.length≠b.length->cv a b=false
 | [],[],h=>absurd rfl h
 | [],_ :: _,_=>rfl
 | _ :: _,[],_=>rfl
 | a :: r,b :: s,h=>by
  simp only [cv,iM (a:=r) (b:=s) (fun z=>h (by rw [zac,zac,z])),Bool.and_false]
def eAt (a b:List D) (j:Nat):Bool:=match a[j]?,b[j]? with
 | some x,some y=>peq x y
 | _,_=>true
def jW (n:Nat) (f:Nat->Bool):(List.range (n+1)).all f=(f 0 && (List.range n).all fun j=>f (j+1)):=by
 rw [List.range_succ_eq_map,List.all_cons,List.all_map];rfl
def iN:∀ {a b:List D},a.length=b.length->(List.range a.length).all (eAt a b)=cv a b
 | [],[],_=>rfl
 | a :: r,b :: s,h=>by
  rw [zac,jW];have e:(List.range r.length).all (fun j=>eAt (a :: r) (b :: s) (j+1))=(List.range r.length).all (eAt r s):=by
   congr 1
  rw [e,iN (by simpa using h)];rfl
 | [],_ :: _,h=>by simp at h
 | _ :: _,[],h=>by simp at h
section
open PySem.SeqAt
variable {X:Cx} {pins:List (Addr × Obj)} {σ:St} {H:Hp} {s:Shared} {O:AS}
def ww {p:Addr} {vs ws:List V} (I:Inv X pins σ H s) (h:SqL X.K H p vs) (g:SqT X.K H p ws):False:=by
 obtain ⟨its,_,p1,_⟩:=I.list h;obtain ⟨its2,_,p2,_⟩:=I.tuple g;exact ne_of_list_tuple p1.isList (show s.heap.IsTuple p its2.toArray from p2) rfl
def A7 {p:Addr} {vs:List V} {ks:List (List Key × V)} (I:Inv X pins σ H s) (h:SqL X.K H p vs) (g:H p=some (.dT ks)):False:=by
 obtain ⟨its,_,⟨o,n,e1,e2,_⟩,_⟩:=I.list h;obtain ⟨_,_,_,_,o',_,_,g1,g2,_⟩:=wK I.hok g;rw [e1] at g1;cases g1;rw [g2.1] at e2;simp at e2
def CN {p:Addr} {vs:List V} {ks:List (Key × V)} (I:Inv X pins σ H s) (h:SqL X.K H p vs) (g:H p=some (.dK ks)):False:=by
 obtain ⟨its,_,⟨o,n,e1,e2,_⟩,_⟩:=I.list h;obtain ⟨_,_,_,_,o',_,_,g1,g2,_⟩:=kF I.hok g;rw [e1] at g1;cases g1;rw [g2.1] at e2;simp at e2
mutual
theorem Ow.inj (I:Inv X pins σ H s):∀ (a b:D) {x:V},Ow X.K O H a 0 x NoA->Ow X.K O H b 0 x NoA->aj a=true->a=b
 | .none,b,_,h,g,_=>by
  cases (show _=_ from h);cases b with
  | none=>rfl
  | list ts=>obtain ⟨_,_,z,_⟩:=g; cases z
  | tuple ts=>obtain ⟨_,_,z,_⟩:=g; cases z
  | dict ts=>obtain ⟨_,_,z,_⟩:=g; cases z
  | bool c=>cases (show V.non=V.bl c from g)
  | int c=>cases (show V.non=V.int c from g)
  | str c=>cases (show V.non=V.str c from g)
 | .bool c,b,_,h,g,_=>by
  cases (show _=_ from h);cases b with
  | none=>cases (show V.bl c=V.non from g)
  | list ts=>obtain ⟨_,_,z,_⟩:=g; cases z
  | tuple ts=>obtain ⟨_,_,z,_⟩:=g; cases z
  | dict ts=>obtain ⟨_,_,z,_⟩:=g; cases z
  | bool c'=>cases (show V.bl c=V.bl c' from g); rfl
  | int c'=>cases (show V.bl c=V.int c' from g)
  | str c'=>cases (show V.bl c=V.str c' from g)
 | .int c,b,_,h,g,_=>by
  cases (show _=_ from h);cases b with
  | none=>cases (show V.int c=V.non from g)
  | list ts=>obtain ⟨_,_,z,_⟩:=g; cases z
  | tuple ts=>obtain ⟨_,_,z,_⟩:=g; cases z
  | dict ts=>obtain ⟨_,_,z,_⟩:=g; cases z
  | bool c'=>cases (show V.int c=V.bl c' from g)
  | int c'=>cases (show V.int c=V.int c' from g); rfl
  | str c'=>cases (show V.int c=V.str c' from g)
 | .str c,b,_,h,g,_=>by
  cases (show _=_ from h);cases b with
  | none=>cases (show V.str c=V.non from g)
  | list ts=>obtain ⟨_,_,z,_⟩:=g; cases z
  | tuple ts=>obtain ⟨_,_,z,_⟩:=g; cases z
  | dict ts=>obtain ⟨_,_,z,_⟩:=g; cases z
  | bool c'=>cases (show V.str c=V.bl c' from g)
  | int c'=>cases (show V.str c=V.int c' from g)
  | str c'=>cases (show V.str c=V.str c' from g); rfl
 | .list ts,b,_,h,g,hn=>by
  obtain ⟨p,vs,rfl,fz,w⟩:=h.lst0;cases b with
  | none=>cases (show V.ref p=V.non from g)
  | bool c'=>cases (show V.ref p=V.bl c' from g)
  | int c'=>cases (show V.ref p=V.int c' from g)
  | str c'=>cases (show V.ref p=V.str c' from g)
  | list us =>
   obtain ⟨p',vs',e,fz',w'⟩:=g.lst0;cases e
   have:=I.list_inj fz.sq fz'.sq;subst this;rw [Ows.inj I ts us w w' (by simpa [aj] using hn)]
  | tuple us =>
   obtain ⟨p',vs',e,fz',w'⟩:=g.tup0;cases e;exact (ww I fz.sq fz'.sq).elim
  | dict us =>
   obtain ⟨p',vs',e,⟨_,g1,_⟩ | ⟨z,_⟩ | ⟨_,⟨_,_,_,g1,_⟩ | ⟨_,C,_,_,g1,_⟩⟩⟩:=g
   ·cases e;exact (CN I fz.sq g1).elim
   ·exact absurd rfl z
   ·cases e;exact (A7 I fz.sq g1).elim
   ·cases e;obtain ⟨its,rv,⟨o,n,e1,e2,_⟩,_⟩:=I.list fz.sq;obtain ⟨⟨o',x1,x2,_⟩,_⟩:=(show ObjOk X.prog X.w H s.heap p (.ext (Cd p C)) from I.hok p _ g1);rw [e1] at x1;cases x1;rw [e2] at x2;cases x2
 | .tuple ts,b,_,h,g,hn=>by
  obtain ⟨p,vs,rfl,fz,w⟩:=h.tup0;cases b with
  | none=>cases (show V.ref p=V.non from g)
  | bool c'=>cases (show V.ref p=V.bl c' from g)
  | int c'=>cases (show V.ref p=V.int c' from g)
  | str c'=>cases (show V.ref p=V.str c' from g)
  | tuple us =>
   obtain ⟨p',vs',e,fz',w'⟩:=g.tup0;cases e
   have:=fz.1.symm.trans fz'.1;cases this;rw [Ows.inj I ts us w w' (by simpa [aj] using hn)]
  | list us =>
   obtain ⟨p',vs',e,fz',w'⟩:=g.lst0;cases e;exact (ww I fz'.sq fz.sq).elim
  | dict us =>
   obtain ⟨p',vs',e,⟨_,g1,_⟩ | ⟨z,_⟩ | ⟨_,⟨_,_,_,g1,_⟩ | ⟨_,C,_,_,g1,_⟩⟩⟩:=g
   ·cases e;rw [fz.1] at g1;cases g1
   ·exact absurd rfl z
   ·cases e;rw [fz.1] at g1;cases g1
   ·cases e;rw [fz.1] at g1;cases g1
 | .dict _,_,_,_,_,hn=>by simp [aj] at hn
theorem Ows.inj (I:Inv X pins σ H s):∀ (a b:List D) {x:List V},Ows X.K O H a 0 x NoA->Ows X.K O H b 0 x NoA->au a=true->a=b
 | [],b,_,h,g,_=>by
  cases (show _=_ from h);cases b with
  | nil=>rfl
  | cons u us=>obtain ⟨_,_,_,_,e,_⟩:=g; cases e
 | t :: ts,b,_,h,g,hn=>by
  obtain ⟨v,r,F1,F2,e,_,_,_,h4,h5⟩:=h;subst e;have hn':aj t=true/\au ts=true:=by simpa [au] using hn
  cases b with
  | nil=>cases (show v :: r=[] from g)
  | cons u us =>
   obtain ⟨v',r',G1,G2,e,_,_,_,g4,g5⟩:=g;cases e;rw [Ow.inj I t u (Ow.any0 t h4) (Ow.any0 u g4) hn'.1,Ows.inj I ts us (Ows.any0 ts h5) (Ows.any0 us g5) hn'.2]
end
def lj {A:Around} {ts us:List D} {vs ws:List V} {its its2:List Value} (w:Ows X.K O H ts 0 vs NoA) (w2:Ows X.K O H us 0 ws NoA) (rv:Vals vs its) (rv2:Vals ws its2)
  (ih:∀ (j:Nat) a b x y v u,ts[j]?=some a->us[j]?=some b->Ow X.K O H a 0 x NoA->Ow X.K O H b 0 y NoA->RelV x v->RelV y u->EqAt A s v u (peq a b)) :
  ∀ j (h1:j < its.toArray.size) (h2:j < its2.toArray.size),EqAt A s its.toArray[j] its2.toArray[j] (eAt ts us j):=fun j h1 h2=>by
 have h1':j < its.length:=by simpa using h1
 have h2':j < its2.length:=by simpa using h2
 have l1:=rv.length;have l2:=rv2.length;have m1:=w.len;have m2:=w2.len;have e1:ts[j]?=some ts[j]:=zak (by omega);have e2:us[j]?=some us[j]:=zak (by omega);obtain ⟨x,g1,o1⟩:=w.get e1;obtain ⟨y,g2,o2⟩:=w2.get e2;obtain ⟨u1,f1,q1⟩:=rv.get g1;obtain ⟨u2,f2,q2⟩:=rv2.get g2;have z:=ih j _ _ x y u1 u2 e1 e2 o1 o2 q1 q2;rw [zak h1'] at f1;rw [zak h2'] at f2;have i1:its.toArray[j]=u1:=by simpa using zat f1
 have i2:its2.toArray[j]=u2:=by simpa using zat f2
 rw [i1,i2];unfold eAt;rw [e1,e2];exact z
def nB (I:Inv X pins σ H s):∀ (n:Nat) (a b:D) (A:Around) (x y:V) (v u:Value),a7 a<=n->aj a=true->aj b=true->Ow X.K O H a 0 x NoA->Ow X.K O H b 0 y NoA->RelV x v->RelV y u->A.units+n+1 < cLine ->
  EqAt A s v u (peq a b)/\RcAt A s v u (peq a b)/\RcNeAt A s v u (!peq a b):=by
 intro n
 induction n with
 | zero =>
  intro a b A x y v u hdp hna hnb o1 o2 r1 r2 hun;have hu:A.units < cLine:=by omega
  cases a with
  | none =>
   cases b with
   | none =>
    cases (show x=V.non from o1);cases r1;cases (show y=V.non from o2);cases r2;exact ⟨EqAt.same _,RcAt.none_none,RcNeAt.none_none⟩
   | bool c2 =>
    cases (show x=V.non from o1);cases r1;cases (show y=V.bl c2 from o2);cases r2;exact ⟨EqAt.none_bool _,RcAt.none_bool _,RcNeAt.none_bool _⟩
   | int c2 =>
    cases (show x=V.non from o1);cases r1;cases (show y=V.int c2 from o2);obtain ⟨tk2,rfl⟩:=r2;exact ⟨EqAt.none_int _ _,RcAt.none_int _ _,RcNeAt.none_int _ _⟩
   | str c2 =>
    cases (show x=V.non from o1);cases r1;cases (show y=V.str c2 from o2);obtain ⟨tk2,rfl⟩:=r2;exact ⟨EqAt.none_str _ _,RcAt.none_str _ _,RcNeAt.none_str _ _⟩
   | list c2 =>
    cases (show x=V.non from o1);cases r1;obtain ⟨p2,vs2,rfl,fz2,w2⟩:=o2.lst0;cases r2;obtain ⟨its2,rv2,pl2,_⟩:=I.list fz2.sq;have hl2:=pl2.isList;exact ⟨EqAt.none_list  hl2 hu,RcAt.none_list  hl2 hu,RcNeAt.none_list  hl2 hu⟩
   | tuple c2 =>
    cases (show x=V.non from o1);cases r1;obtain ⟨p2,vs2,rfl,fz2,w2⟩:=o2.tup0;cases r2;obtain ⟨its2,rv2,pl2,_⟩:=I.tuple fz2.sq;have hl2:s.heap.IsTuple p2 its2.toArray:=pl2;exact ⟨EqAt.none_tuple  hl2 hu,RcAt.none_tuple  hl2 hu,RcNeAt.none_tuple  hl2 hu⟩
   | dict c2=>simp [aj] at hnb
  | bool c1 =>
   cases b with
   | none =>
    cases (show x=V.bl c1 from o1);cases r1;cases (show y=V.non from o2);cases r2;exact ⟨EqAt.bool_none _,RcAt.bool_none _,RcNeAt.bool_none _⟩
   | bool c2 =>
    cases (show x=V.bl c1 from o1);cases r1;cases (show y=V.bl c2 from o2);cases r2;exact ⟨EqAt.bool_bool _ _,RcAt.bool_bool _ _,RcNeAt.bool_bool _ _⟩
   | int c2 =>
    cases (show x=V.bl c1 from o1);cases r1;cases (show y=V.int c2 from o2);obtain ⟨tk2,rfl⟩:=r2;exact ⟨EqAt.bool_int _ _ _,RcAt.bool_int _ _ _,RcNeAt.bool_int _ _ _⟩
   | str c2 =>
    cases (show x=V.bl c1 from o1);cases r1;cases (show y=V.str c2 from o2);obtain ⟨tk2,rfl⟩:=r2;exact ⟨EqAt.bool_str _ _ _,RcAt.bool_str _ _ _,RcNeAt.bool_str _ _ _⟩
   | list c2 =>
    cases (show x=V.bl c1 from o1);cases r1;obtain ⟨p2,vs2,rfl,fz2,w2⟩:=o2.lst0;cases r2;obtain ⟨its2,rv2,pl2,_⟩:=I.list fz2.sq;have hl2:=pl2.isList;exact ⟨EqAt.bool_list _ hl2 hu,RcAt.bool_list _ hl2 hu,RcNeAt.bool_list _ hl2 hu⟩
   | tuple c2 =>
    cases (show x=V.bl c1 from o1);cases r1;obtain ⟨p2,vs2,rfl,fz2,w2⟩:=o2.tup0;cases r2;obtain ⟨its2,rv2,pl2,_⟩:=I.tuple fz2.sq;have hl2:s.heap.IsTuple p2 its2.toArray:=pl2;exact ⟨EqAt.bool_tuple _ hl2 hu,RcAt.bool_tuple _ hl2 hu,RcNeAt.bool_tuple _ hl2 hu⟩
   | dict c2=>simp [aj] at hnb
  | int c1 =>
   cases b with
   | none =>
    cases (show x=V.int c1 from o1);obtain ⟨tk1,rfl⟩:=r1;cases (show y=V.non from o2);cases r2;exact ⟨EqAt.int_none _ _,RcAt.int_none _ _,RcNeAt.int_none _ _⟩
   | bool c2 =>
    cases (show x=V.int c1 from o1);obtain ⟨tk1,rfl⟩:=r1;cases (show y=V.bl c2 from o2);cases r2;exact ⟨EqAt.int_bool _ _ _,RcAt.int_bool _ _ _,RcNeAt.int_bool _ _ _⟩
   | int c2 =>
    cases (show x=V.int c1 from o1);obtain ⟨tk1,rfl⟩:=r1;cases (show y=V.int c2 from o2);obtain ⟨tk2,rfl⟩:=r2;exact ⟨EqAt.int_int _ _ _ _,RcAt.int_int _ _ _ _,RcNeAt.int_int _ _ _ _⟩
   | str c2 =>
    cases (show x=V.int c1 from o1);obtain ⟨tk1,rfl⟩:=r1;cases (show y=V.str c2 from o2);obtain ⟨tk2,rfl⟩:=r2;exact ⟨EqAt.int_str _ _ _ _,RcAt.int_str _ _ _ _,RcNeAt.int_str _ _ _ _⟩
   | list c2 =>
    cases (show x=V.int c1 from o1);obtain ⟨tk1,rfl⟩:=r1;obtain ⟨p2,vs2,rfl,fz2,w2⟩:=o2.lst0;cases r2;obtain ⟨its2,rv2,pl2,_⟩:=I.list fz2.sq;have hl2:=pl2.isList;exact ⟨EqAt.int_list _ _ hl2 hu,RcAt.int_list _ _ hl2 hu,RcNeAt.int_list _ _ hl2 hu⟩
   | tuple c2 =>
    cases (show x=V.int c1 from o1);obtain ⟨tk1,rfl⟩:=r1;obtain ⟨p2,vs2,rfl,fz2,w2⟩:=o2.tup0;cases r2;obtain ⟨its2,rv2,pl2,_⟩:=I.tuple fz2.sq;have hl2:s.heap.IsTuple p2 its2.toArray:=pl2;exact ⟨EqAt.int_tuple _ _ hl2 hu,RcAt.int_tuple _ _ hl2 hu,RcNeAt.int_tuple _ _ hl2 hu⟩
   | dict c2=>simp [aj] at hnb
  | str c1 =>
   cases b with
   | none =>
    cases (show x=V.str c1 from o1);obtain ⟨tk1,rfl⟩:=r1;cases (show y=V.non from o2);cases r2;exact ⟨EqAt.str_none _ _,RcAt.str_none _ _,RcNeAt.str_none _ _⟩
   | bool c2 =>
    cases (show x=V.str c1 from o1);obtain ⟨tk1,rfl⟩:=r1;cases (show y=V.bl c2 from o2);cases r2;exact ⟨EqAt.str_bool _ _ _,RcAt.str_bool _ _ _,RcNeAt.str_bool _ _ _⟩
   | int c2 =>
    cases (show x=V.str c1 from o1);obtain ⟨tk1,rfl⟩:=r1;cases (show y=V.int c2 from o2);obtain ⟨tk2,rfl⟩:=r2;exact ⟨EqAt.str_int _ _ _ _,RcAt.str_int _ _ _ _,RcNeAt.str_int _ _ _ _⟩
   | str c2 =>
    cases (show x=V.str c1 from o1);obtain ⟨tk1,rfl⟩:=r1;cases (show y=V.str c2 from o2);obtain ⟨tk2,rfl⟩:=r2;exact ⟨EqAt.str_str _ _ _ _,RcAt.str_str _ _ _ _,RcNeAt.str_str _ _ _ _⟩
   | list c2 =>
    cases (show x=V.str c1 from o1);obtain ⟨tk1,rfl⟩:=r1;obtain ⟨p2,vs2,rfl,fz2,w2⟩:=o2.lst0;cases r2;obtain ⟨its2,rv2,pl2,_⟩:=I.list fz2.sq;have hl2:=pl2.isList;exact ⟨EqAt.str_list _ _ hl2 hu,RcAt.str_list _ _ hl2 hu,RcNeAt.str_list _ _ hl2 hu⟩
   | tuple c2 =>
    cases (show x=V.str c1 from o1);obtain ⟨tk1,rfl⟩:=r1;obtain ⟨p2,vs2,rfl,fz2,w2⟩:=o2.tup0;cases r2;obtain ⟨its2,rv2,pl2,_⟩:=I.tuple fz2.sq;have hl2:s.heap.IsTuple p2 its2.toArray:=pl2;exact ⟨EqAt.str_tuple _ _ hl2 hu,RcAt.str_tuple _ _ hl2 hu,RcNeAt.str_tuple _ _ hl2 hu⟩
   | dict c2=>simp [aj] at hnb
  | list c1 =>
   simp only [a7] at hdp;omega
  | tuple c1 =>
   simp only [a7] at hdp;omega
  | dict c1=>simp [aj] at hna
 | succ n ih =>
  intro a b A x y v u hdp hna hnb o1 o2 r1 r2 hun;have hu:A.units < cLine:=by omega
  have hu1:A.in1.units+n+1 < cLine:=by
   show A.units+1+n+1 < cLine;omega
  cases a with
  | none =>
   cases b with
   | none =>
    cases (show x=V.non from o1);cases r1;cases (show y=V.non from o2);cases r2;exact ⟨EqAt.same _,RcAt.none_none,RcNeAt.none_none⟩
   | bool c2 =>
    cases (show x=V.non from o1);cases r1;cases (show y=V.bl c2 from o2);cases r2;exact ⟨EqAt.none_bool _,RcAt.none_bool _,RcNeAt.none_bool _⟩
   | int c2 =>
    cases (show x=V.non from o1);cases r1;cases (show y=V.int c2 from o2);obtain ⟨tk2,rfl⟩:=r2;exact ⟨EqAt.none_int _ _,RcAt.none_int _ _,RcNeAt.none_int _ _⟩
   | str c2 =>
    cases (show x=V.non from o1);cases r1;cases (show y=V.str c2 from o2);obtain ⟨tk2,rfl⟩:=r2;exact ⟨EqAt.none_str _ _,RcAt.none_str _ _,RcNeAt.none_str _ _⟩
   | list c2 =>
    cases (show x=V.non from o1);cases r1;obtain ⟨p2,vs2,rfl,fz2,w2⟩:=o2.lst0;cases r2;obtain ⟨its2,rv2,pl2,_⟩:=I.list fz2.sq;have hl2:=pl2.isList;exact ⟨EqAt.none_list  hl2 hu,RcAt.none_list  hl2 hu,RcNeAt.none_list  hl2 hu⟩
   | tuple c2 =>
    cases (show x=V.non from o1);cases r1;obtain ⟨p2,vs2,rfl,fz2,w2⟩:=o2.tup0;cases r2;obtain ⟨its2,rv2,pl2,_⟩:=I.tuple fz2.sq;have hl2:s.heap.IsTuple p2 its2.toArray:=pl2;exact ⟨EqAt.none_tuple  hl2 hu,RcAt.none_tuple  hl2 hu,RcNeAt.none_tuple  hl2 hu⟩
   | dict c2=>simp [aj] at hnb
  | bool c1 =>
   cases b with
   | none =>
    cases (show x=V.bl c1 from o1);cases r1;cases (show y=V.non from o2);cases r2;exact ⟨EqAt.bool_none _,RcAt.bool_none _,RcNeAt.bool_none _⟩
   | bool c2 =>
    cases (show x=V.bl c1 from o1);cases r1;cases (show y=V.bl c2 from o2);cases r2;exact ⟨EqAt.bool_bool _ _,RcAt.bool_bool _ _,RcNeAt.bool_bool _ _⟩
   | int c2 =>
    cases (show x=V.bl c1 from o1);cases r1;cases (show y=V.int c2 from o2);obtain ⟨tk2,rfl⟩:=r2;exact ⟨EqAt.bool_int _ _ _,RcAt.bool_int _ _ _,RcNeAt.bool_int _ _ _⟩
   | str c2 =>
    cases (show x=V.bl c1 from o1);cases r1;cases (show y=V.str c2 from o2);obtain ⟨tk2,rfl⟩:=r2;exact ⟨EqAt.bool_str _ _ _,RcAt.bool_str _ _ _,RcNeAt.bool_str _ _ _⟩
   | list c2 =>
    cases (show x=V.bl c1 from o1);cases r1;obtain ⟨p2,vs2,rfl,fz2,w2⟩:=o2.lst0;cases r2;obtain ⟨its2,rv2,pl2,_⟩:=I.list fz2.sq;have hl2:=pl2.isList;exact ⟨EqAt.bool_list _ hl2 hu,RcAt.bool_list _ hl2 hu,RcNeAt.bool_list _ hl2 hu⟩
   | tuple c2 =>
    cases (show x=V.bl c1 from o1);cases r1;obtain ⟨p2,vs2,rfl,fz2,w2⟩:=o2.tup0;cases r2;obtain ⟨its2,rv2,pl2,_⟩:=I.tuple fz2.sq;have hl2:s.heap.IsTuple p2 its2.toArray:=pl2;exact ⟨EqAt.bool_tuple _ hl2 hu,RcAt.bool_tuple _ hl2 hu,RcNeAt.bool_tuple _ hl2 hu⟩
   | dict c2=>simp [aj] at hnb
  | int c1 =>
   cases b with
   | none =>
    cases (show x=V.int c1 from o1);obtain ⟨tk1,rfl⟩:=r1;cases (show y=V.non from o2);cases r2;exact ⟨EqAt.int_none _ _,RcAt.int_none _ _,RcNeAt.int_none _ _⟩
   | bool c2 =>
    cases (show x=V.int c1 from o1);obtain ⟨tk1,rfl⟩:=r1;cases (show y=V.bl c2 from o2);cases r2;exact ⟨EqAt.int_bool _ _ _,RcAt.int_bool _ _ _,RcNeAt.int_bool _ _ _⟩
   | int c2 =>
    cases (show x=V.int c1 from o1);obtain ⟨tk1,rfl⟩:=r1;cases (show y=V.int c2 from o2);obtain ⟨tk2,rfl⟩:=r2;exact ⟨EqAt.int_int _ _ _ _,RcAt.int_int _ _ _ _,RcNeAt.int_int _ _ _ _⟩
   | str c2 =>
    cases (show x=V.int c1 from o1);obtain ⟨tk1,rfl⟩:=r1;cases (show y=V.str c2 from o2);obtain ⟨tk2,rfl⟩:=r2;exact ⟨EqAt.int_str _ _ _ _,RcAt.int_str _ _ _ _,RcNeAt.int_str _ _ _ _⟩
   | list c2 =>
    cases (show x=V.int c1 from o1);obtain ⟨tk1,rfl⟩:=r1;obtain ⟨p2,vs2,rfl,fz2,w2⟩:=o2.lst0;cases r2;obtain ⟨its2,rv2,pl2,_⟩:=I.list fz2.sq;have hl2:=pl2.isList;exact ⟨EqAt.int_list _ _ hl2 hu,RcAt.int_list _ _ hl2 hu,RcNeAt.int_list _ _ hl2 hu⟩
   | tuple c2 =>
    cases (show x=V.int c1 from o1);obtain ⟨tk1,rfl⟩:=r1;obtain ⟨p2,vs2,rfl,fz2,w2⟩:=o2.tup0;cases r2;obtain ⟨its2,rv2,pl2,_⟩:=I.tuple fz2.sq;have hl2:s.heap.IsTuple p2 its2.toArray:=pl2;exact ⟨EqAt.int_tuple _ _ hl2 hu,RcAt.int_tuple _ _ hl2 hu,RcNeAt.int_tuple _ _ hl2 hu⟩
   | dict c2=>simp [aj] at hnb
  | str c1 =>
   cases b with
   | none =>
    cases (show x=V.str c1 from o1);obtain ⟨tk1,rfl⟩:=r1;cases (show y=V.non from o2);cases r2;exact ⟨EqAt.str_none _ _,RcAt.str_none _ _,RcNeAt.str_none _ _⟩
   | bool c2 =>
    cases (show x=V.str c1 from o1);obtain ⟨tk1,rfl⟩:=r1;cases (show y=V.bl c2 from o2);cases r2;exact ⟨EqAt.str_bool _ _ _,RcAt.str_bool _ _ _,RcNeAt.str_bool _ _ _⟩
   | int c2 =>
    cases (show x=V.str c1 from o1);obtain ⟨tk1,rfl⟩:=r1;cases (show y=V.int c2 from o2);obtain ⟨tk2,rfl⟩:=r2;exact ⟨EqAt.str_int _ _ _ _,RcAt.str_int _ _ _ _,RcNeAt.str_int _ _ _ _⟩
   | str c2 =>
    cases (show x=V.str c1 from o1);obtain ⟨tk1,rfl⟩:=r1;cases (show y=V.str c2 from o2);obtain ⟨tk2,rfl⟩:=r2;exact ⟨EqAt.str_str _ _ _ _,RcAt.str_str _ _ _ _,RcNeAt.str_str _ _ _ _⟩
   | list c2 =>
    cases (show x=V.str c1 from o1);obtain ⟨tk1,rfl⟩:=r1;obtain ⟨p2,vs2,rfl,fz2,w2⟩:=o2.lst0;cases r2;obtain ⟨its2,rv2,pl2,_⟩:=I.list fz2.sq;have hl2:=pl2.isList;exact ⟨EqAt.str_list _ _ hl2 hu,RcAt.str_list _ _ hl2 hu,RcNeAt.str_list _ _ hl2 hu⟩
   | tuple c2 =>
    cases (show x=V.str c1 from o1);obtain ⟨tk1,rfl⟩:=r1;obtain ⟨p2,vs2,rfl,fz2,w2⟩:=o2.tup0;cases r2;obtain ⟨its2,rv2,pl2,_⟩:=I.tuple fz2.sq;have hl2:s.heap.IsTuple p2 its2.toArray:=pl2;exact ⟨EqAt.str_tuple _ _ hl2 hu,RcAt.str_tuple _ _ hl2 hu,RcNeAt.str_tuple _ _ hl2 hu⟩
   | dict c2=>simp [aj] at hnb
  | list c1 =>
   cases b with
   | none =>
    obtain ⟨p1,vs1,rfl,fz1,w1⟩:=o1.lst0;cases r1;obtain ⟨its1,rv1,pl1,_⟩:=I.list fz1.sq;have hl1:=pl1.isList;cases (show y=V.non from o2);cases r2;exact ⟨EqAt.list_none  hl1 hu,RcAt.list_none  hl1 hu,RcNeAt.list_none  hl1 hu⟩
   | bool c2 =>
    obtain ⟨p1,vs1,rfl,fz1,w1⟩:=o1.lst0;cases r1;obtain ⟨its1,rv1,pl1,_⟩:=I.list fz1.sq;have hl1:=pl1.isList;cases (show y=V.bl c2 from o2);cases r2;exact ⟨EqAt.list_bool _ hl1 hu,RcAt.list_bool _ hl1 hu,RcNeAt.list_bool _ hl1 hu⟩
   | int c2 =>
    obtain ⟨p1,vs1,rfl,fz1,w1⟩:=o1.lst0;cases r1;obtain ⟨its1,rv1,pl1,_⟩:=I.list fz1.sq;have hl1:=pl1.isList;cases (show y=V.int c2 from o2);obtain ⟨tk2,rfl⟩:=r2;exact ⟨EqAt.list_int _ _ hl1 hu,RcAt.list_int _ _ hl1 hu,RcNeAt.list_int _ _ hl1 hu⟩
   | str c2 =>
    obtain ⟨p1,vs1,rfl,fz1,w1⟩:=o1.lst0;cases r1;obtain ⟨its1,rv1,pl1,_⟩:=I.list fz1.sq;have hl1:=pl1.isList;cases (show y=V.str c2 from o2);obtain ⟨tk2,rfl⟩:=r2;exact ⟨EqAt.list_str _ _ hl1 hu,RcAt.list_str _ _ hl1 hu,RcNeAt.list_str _ _ hl1 hu⟩
   | list c2 =>
    obtain ⟨p1,vs1,rfl,fz1,w1⟩:=o1.lst0;cases r1;obtain ⟨its1,rv1,pl1,_⟩:=I.list fz1.sq;have hl1:=pl1.isList;obtain ⟨p2,vs2,rfl,fz2,w2⟩:=o2.lst0;cases r2;obtain ⟨its2,rv2,pl2,_⟩:=I.list fz2.sq;have hl2:=pl2.isList;have dl:aU c1<=n:=by simp only [a7] at hdp; omega
    have nd1:au c1=true:=by simpa [aj] using hna
    have nd2:au c2=true:=by simpa [aj] using hnb
    have el:=lj (A:=A.in1) w1 w2 rv1 rv2 fun j a b x y v u e1 e2 q1 q2 q3 q4=>(ih a b A.in1 x y v u (zau (hU e1) dl) (b9 nd1 e1) (b9 nd2 e2) q1 q2 q3 q4 hu1).1;have l1:=rv1.length;have l2:=rv2.length;have m1:=w1.len;have m2:=w2.len;have rc:RcAt A s (.ref p1) (.ref p2) (cv c1 c2)/\RcNeAt A s (.ref p1) (.ref p2) (!cv c1 c2):=by
     by_cases hz:c1.length=c2.length
     ·have hs1:its1.toArray.size=its2.toArray.size:=by rw [zai,zai]; omega
      have hs2:its1.toArray.size=c1.length:=by rw [zai]; omega
      have z1:=RcAt.lists hl1 hl2 hs1 hu el;have z2:=RcNeAt.lists hl1 hl2 hs1 hu el;rw [hs2,iN hz] at z1 z2;exact ⟨z1,z2⟩
     ·have hs1:(its1.toArray.size != its2.toArray.size)=true:=by rw [zai,zai,bne_iff_ne]; omega
      rw [iM hz];exact ⟨RcAt.lists_lengths hl1 hl2 hs1 hu,RcNeAt.lists_lengths hl1 hl2 hs1 hu⟩
    have pe:peq (.list c1) (.list c2)=cv c1 c2:=by simp only [peq]
    refine ⟨?_,by rw [pe]; exact rc.1,by rw [pe]; exact rc.2⟩;by_cases hp:p1=p2
    ·subst hp
     have:=Ow.inj I _ _ o1 o2 hna;cases this;rw [ei _ hna];exact EqAt.same _
    ·rw [pe];exact EqAt.of_refs hp rc.1
   | tuple c2 =>
    obtain ⟨p1,vs1,rfl,fz1,w1⟩:=o1.lst0;cases r1;obtain ⟨its1,rv1,pl1,_⟩:=I.list fz1.sq;have hl1:=pl1.isList;obtain ⟨p2,vs2,rfl,fz2,w2⟩:=o2.tup0;cases r2;obtain ⟨its2,rv2,pl2,_⟩:=I.tuple fz2.sq;have hl2:s.heap.IsTuple p2 its2.toArray:=pl2;exact ⟨EqAt.list_tuple hl1 hl2 hu,RcAt.list_tuple hl1 hl2 hu,RcNeAt.list_tuple hl1 hl2 hu⟩
   | dict c2=>simp [aj] at hnb
  | tuple c1 =>
   cases b with
   | none =>
    obtain ⟨p1,vs1,rfl,fz1,w1⟩:=o1.tup0;cases r1;obtain ⟨its1,rv1,pl1,_⟩:=I.tuple fz1.sq;have hl1:s.heap.IsTuple p1 its1.toArray:=pl1;cases (show y=V.non from o2);cases r2;exact ⟨EqAt.tuple_none  hl1 hu,RcAt.tuple_none  hl1 hu,RcNeAt.tuple_none  hl1 hu⟩
   | bool c2 =>
    obtain ⟨p1,vs1,rfl,fz1,w1⟩:=o1.tup0;cases r1;obtain ⟨its1,rv1,pl1,_⟩:=I.tuple fz1.sq;have hl1:s.heap.IsTuple p1 its1.toArray:=pl1;cases (show y=V.bl c2 from o2);cases r2;exact ⟨EqAt.tuple_bool _ hl1 hu,RcAt.tuple_bool _ hl1 hu,RcNeAt.tuple_bool _ hl1 hu⟩
   | int c2 =>
    obtain ⟨p1,vs1,rfl,fz1,w1⟩:=o1.tup0;cases r1;obtain ⟨its1,rv1,pl1,_⟩:=I.tuple fz1.sq;have hl1:s.heap.IsTuple p1 its1.toArray:=pl1;cases (show y=V.int c2 from o2);obtain ⟨tk2,rfl⟩:=r2;exact ⟨EqAt.tuple_int _ _ hl1 hu,RcAt.tuple_int _ _ hl1 hu,RcNeAt.tuple_int _ _ hl1 hu⟩
   | str c2 =>
    obtain ⟨p1,vs1,rfl,fz1,w1⟩:=o1.tup0;cases r1;obtain ⟨its1,rv1,pl1,_⟩:=I.tuple fz1.sq;have hl1:s.heap.IsTuple p1 its1.toArray:=pl1;cases (show y=V.str c2 from o2);obtain ⟨tk2,rfl⟩:=r2;exact ⟨EqAt.tuple_str _ _ hl1 hu,RcAt.tuple_str _ _ hl1 hu,RcNeAt.tuple_str _ _ hl1 hu⟩
   | list c2 =>
    obtain ⟨p1,vs1,rfl,fz1,w1⟩:=o1.tup0;cases r1;obtain ⟨its1,rv1,pl1,_⟩:=I.tuple fz1.sq;have hl1:s.heap.IsTuple p1 its1.toArray:=pl1;obtain ⟨p2,vs2,rfl,fz2,w2⟩:=o2.lst0;cases r2;obtain ⟨its2,rv2,pl2,_⟩:=I.list fz2.sq;have hl2:=pl2.isList;exact ⟨EqAt.tuple_list hl1 hl2 hu,RcAt.tuple_list hl1 hl2 hu,RcNeAt.tuple_list hl1 hl2 hu⟩
   | tuple c2 =>
    obtain ⟨p1,vs1,rfl,fz1,w1⟩:=o1.tup0;cases r1;obtain ⟨its1,rv1,pl1,_⟩:=I.tuple fz1.sq;have hl1:s.heap.IsTuple p1 its1.toArray:=pl1;obtain ⟨p2,vs2,rfl,fz2,w2⟩:=o2.tup0;cases r2;obtain ⟨its2,rv2,pl2,_⟩:=I.tuple fz2.sq;have hl2:s.heap.IsTuple p2 its2.toArray:=pl2;have dl:aU c1<=n:=by simp only [a7] at hdp; omega
    have nd1:au c1=true:=by simpa [aj] using hna
    have nd2:au c2=true:=by simpa [aj] using hnb
    have el:=lj (A:=A.in1) w1 w2 rv1 rv2 fun j a b x y v u e1 e2 q1 q2 q3 q4=>(ih a b A.in1 x y v u (zau (hU e1) dl) (b9 nd1 e1) (b9 nd2 e2) q1 q2 q3 q4 hu1).1;have l1:=rv1.length;have l2:=rv2.length;have m1:=w1.len;have m2:=w2.len;have rc:RcAt A s (.ref p1) (.ref p2) (cv c1 c2)/\RcNeAt A s (.ref p1) (.ref p2) (!cv c1 c2):=by
     have z1:=RcAt.tuples hl1 hl2 hu el;have z2:=RcNeAt.tuples hl1 hl2 hu el;have ez:((List.range (min its1.toArray.size its2.toArray.size)).all (eAt c1 c2) && its1.toArray.size == its2.toArray.size)=cv c1 c2:=by
      rw [zai,zai];by_cases hz:c1.length=c2.length
      ·have h3:its1.length=its2.length:=by omega
       have h4:min its1.length its2.length=c1.length:=by omega
       rw [h4,iN hz,h3,beq_self_eq_true,Bool.and_true]
      ·have h3:(its1.length == its2.length)=false:=by rw [beq_eq_false_iff_ne]; omega
       rw [h3,Bool.and_false,iM hz]
     rw [ez] at z1 z2;exact ⟨z1,z2⟩
    have pe:peq (.tuple c1) (.tuple c2)=cv c1 c2:=by simp only [peq]
    refine ⟨?_,by rw [pe]; exact rc.1,by rw [pe]; exact rc.2⟩;by_cases hp:p1=p2
    ·subst hp
     have:=Ow.inj I _ _ o1 o2 hna;cases this;rw [ei _ hna];exact EqAt.same _
    ·rw [pe];exact EqAt.of_refs hp rc.1
   | dict c2=>simp [aj] at hnb
  | dict c1=>simp [aj] at hna
end
def eqD (a b:D):Option D:=grd (aj a=true/\aj b=true/\a7 a<=60) (.bool (peq a b))
def neD (a b:D):Option D:=grd (aj a=true/\aj b=true/\a7 a<=60) (.bool (!peq a b))
section
variable {X:Cx} {K:PySem.W.Frag}
def iz (hK:X.K=K) (hu:X.A.units+64 < cLine):OpR X (compareOp .Eq) (rF2 K eqD 3):=by
 subst hK;intro pins s σ H x y v u Q I rx ry ⟨O,a,b,t,oa,ob,hd,hg,k⟩;obtain ⟨⟨c1,c2,c3⟩,rfl⟩:=bQ hg;exact (nB I 60 a b X.A x y v u c3 c1 c2 oa ob rx ry (by omega)).2.1 X.prog X.w _ _ ⟨.bl _,H,I,rfl,k _ H NoA .refl rfl⟩
def CW (hK:X.K=K) (hu:X.A.units+64 < cLine):OpR X (compareOp .NotEq) (rF2 K neD 3):=by
 subst hK;intro pins s σ H x y v u Q I rx ry ⟨O,a,b,t,oa,ob,hd,hg,k⟩;obtain ⟨⟨c1,c2,c3⟩,rfl⟩:=bQ hg;exact (nB I 60 a b X.A x y v u c3 c1 c2 oa ob rx ry (by omega)).2.2 X.prog X.w _ _ ⟨.bl _,H,I,rfl,k _ H NoA .refl rfl⟩
end
def wP {K:PySem.W.Frag} {dps:List Nat} {dr n:Nat} {F:List D->Option (D × En)} {vs:List V} {H:Hp} {Q:VK} {E:XK} (hn:dps.length=n) (h:spF K dps dr F vs H Q E):vs.length=n:=by
 obtain ⟨Ox,ts,R,r,outs,e,_⟩:=h
 have:=e.l2;rw [zad] at this;omega
section
variable {X:Cx} {K:PySem.W.Frag} {p:Bool} {J:Jd} {ds ds0 ds1 ds2 ds3 ds':List Nat} {d d' d1 d2 d3:Nat} {a b c e:Expr} {st:Stmt} {f f1 f2 f3:ME} {m:MS} {pos p2:Pos}
def xH (h:PS X st (tFS K J ds ds2 m)) (hd:leD ds1 ds2=true):PS X st (tFS K J ds ds1 m):=h.imp fun _ _ _=>oM hd
def DX (g g':D->D->Option D) (f1 f2 f3:ME):ME:=fun en=>(f1 en).bind fun r=>(f2 r.2).bind fun q=>(g r.1 q.1).bind fun t=>match t with
 | .bool true=>(f3 q.2).bind fun z=>(g' q.1 z.1).map fun t=>(t,z.2)
 | .bool false=>some (.bool false,q.2)
 | _=>none
abbrev MO:=En->Option (Option Int × En)
def tFO (K:PySem.W.Frag) (p:Bool) (ds ds':List Nat) (f:MO):TO:=fun σ H Q=>∃ Ox en R o en',EnvOk K ds Ox H σ en R/\f en=some (o,en')/\∀ H' R',Post K p ds' Ox σ H en R en' H' R' NoA->Q o H'
def ky:MO:=fun en=>some (none,en)
def ja (f:ME):MO:=fun en=>(f en).bind fun r=>match r.1 with
 | .int i=>some (some i,r.2)
 | _=>none
def PO.imp {X:Cx} {e:Option Expr} {t t':TO} (h:PO X e t) (hi:∀ σ H Q,t' σ H Q->t σ H Q):PO X e t':=fun pins s σ H Q I hw=>h pins s σ H Q I (hi _ _ _ hw)
def xP:PO X none (tFO K p ds ds ky):=po_none.imp fun σ H Q ⟨Ox,en,R,o,en',e,hf,k⟩=>by
 cases hf;exact k H R (Post.refl e)
def xO (h:PE X e (tF K p ds ds1 d f)):PO X (some e) (tFO K p ds ds1 (ja f)):=(w6 h).imp fun σ H Q ⟨Ox,en,R,o,en',e,hf,k⟩=>by
 unfold ja at hf;obtain ⟨⟨t1,en1⟩,h1,hf⟩:=zaa.mp hf;refine ⟨Ox,en,R,t1,en1,e,h1,fun v H' R' F P o=>?_⟩;cases t1 with
 | int i=>cases hf; exact ⟨i,o,k H' R' (P.less fun _ z=>z.elim)⟩
 | _=>cases hf
def rFs (K:PySem.W.Frag) (g:D->Option Int->Option Int->Option D) (d:Nat):V->Option Int->Option Int->Hp->VK->Prop:=fun x lo hi H Q=>∃ (O:AS) (a t:D),Ow K O H a 0 x NoA/\(∀ a,O a->∃ o,H a=some o)/\g a lo hi=some t/\∀ v H' F,NewTo H H' F->Ow K (U F O) H' t d v F->Q v H'
def eSl (g:D->Option Int->Option Int->Option D) (f:ME) (lo hi:MO):ME:=fun en=>(f en).bind fun r=>(lo r.2).bind fun l=>(hi l.2).bind fun h=>(g r.1 l.1 h.1).map fun t=>(t,h.2)
variable {lo hi:MO}
def Ow.past0 {H1 H2:Hp} {R1 R2:Nat->AS} {Ox:AS} {σ:St} {en1 en2:En} {F2:AS} {t:D} {v:V} (P2:Post K p ds2 Ox σ H1 en1 R1 en2 H2 R2 F2) (h:Ow K (Own R1 Ox) H1 t 0 v NoA):Ow K (Own R2 Ox) H2 t 0 v NoA:=by
 refine Ow.mv (G:=NoA) ⟨fun a o q z=>P2.keep a o q fun i zi=>?_,fun a z=>?_⟩ t (fun _ z=>z) h
 ·rcases z with z | z
  ·exact z (.inl ⟨i,zi⟩)
  ·exact z
 ·rcases z with z | z
  ·exact (P2.own a (.inr z)).imp .inl id
  ·exact .inl (.inr z)
def DD {g:D->Option Int->Option Int->Option D} {σ:St} {H:Hp} {Q:VK} (h:tF K p ds ds3 d (eSl g f lo hi) σ H Q):tSl (rFs K g d) (tF K p ds ds1 d1 f) (tFO K p ds1 ds2 lo) (tFO K p ds2 ds3 hi) σ H Q:=by
 obtain ⟨Ox,en,R,t,en',e,hf,k⟩:=h;unfold eSl at hf;obtain ⟨⟨t1,en1⟩,h1,hf⟩:=zaa.mp hf;obtain ⟨⟨l,en2⟩,h2,hf⟩:=zaa.mp hf;obtain ⟨⟨u,en3⟩,h3,hf⟩:=zaa.mp hf;obtain ⟨t',h4,hf⟩:=zab.mp hf;cases hf;refine ⟨Ox,en,R,t1,en1,e,h1,fun v H1 R1 F1 P1 o1=>?_⟩;have o0:=Ow.letgo P1 (fun _ z=>z) o1;refine ⟨Ox,en1,R1,l,en2,P1.env0,h2,fun H2 R2 P2=>?_⟩;refine ⟨Ox,en2,R2,u,en3,P2.env0,h3,fun H3 R3 P3=>?_⟩;have P:=(P1.after P2).after P3;rw [Bool.and_self,Bool.and_self] at P;exact ⟨Own R3 Ox,t1,t,(o0.past0 P2).past0 P3,P3.doms,h4,fun v4 H4 F4 n4 o4=>k v4 H4 R3 F4 (P.fin n4) (kH ▸ o4)⟩
def SlR.imp {r r':V->Option Int->Option Int->Hp->VK->Prop} (h:SlR X r) (hi:∀ x lo hi H Q,r' x lo hi H Q->r x lo hi H Q):SlR X r':=fun pins s σ H x v vl vu lo hi' sl Q I rx hs pl pu q=>h pins s σ H x v vl vu lo hi' sl Q I rx hs pl pu (hi _ _ _ _ _ q)
def qB {g:D->Option Int->Option Int->Option D} {elo ehi:Option Expr} (hr:SlR X (rFs K g d)) (he:PE X e (tF K p ds ds1 d1 f)) (hl:PO X elo (tFO K p ds1 ds2 lo)) (hu:PO X ehi (tFO K p ds2 ds3 hi)):PE X (.Subscript e (.Slice elo ehi none p2) pos) (tF K p ds ds3 d (eSl g f lo hi)) :=
 (pV hr he hl hu).imp fun _ _ _=>DD
def dD {α:Type} (xs:List α) (lo hi:Option Int):List α:=(xs.drop (HT.sIx xs.length 0 lo)).take (HT.sIx xs.length xs.length hi - HT.sIx xs.length 0 lo)
def nC:D->Option Int->Option Int->Option D
 | .list ts,lo,hi=>some (.list (dD ts lo hi))
 | _,_,_=>none
def xS (hK:X.K=K):SlR X (rFs K nC 1):=(DA hK).imp fun x lo hi H Q ⟨O,a,t,oa,hd,hg,k⟩=>by
 cases a with
 | list ts =>
  cases hg;obtain ⟨a,vs,e1,f1,w1⟩:=oa.lst0;refine ⟨a,vs,e1,f1.sq,fun p hp=>?_⟩;have w2:Ows K O H (dD ts lo hi) 0 (jR vs lo hi) NoA:=by
   unfold dD jR;rw [w1.len];exact (w1.drop _).take _
  exact k _ _ _ (bc hp hd w2).1 (bc hp hd w2).2
 | _=>cases hg
def Ep:D->Option Int->Option Int->Option D
 | .str z,lo,hi=>grd (z.length<=sizeLine) (.str ⟨(DH z.cps.toList lo hi).toArray⟩)
 | _,_,_=>none
end
def kEq:D->D->Bool
 | .int a,.int b=>a == b
 | .str a,.str b=>a == b
 | _,_=>false
def jg (a b:Key):kEq (kD a) (kD b)=decide (a=b):=by
 cases a with
 | inl i=>cases b with
  | inl j=>rw [ld]; rfl
  | inr j=>rw [oy]; rfl
 | inr i=>cases b with
  | inl j=>rw [ou]; rfl
  | inr j =>
   rw [oq];show (i == j)=_;by_cases h:i=j
   ·subst h; simp
   ·rw [zaA h,beq_eq_false_iff_ne]; exact h
def kOf:D->Option Key
 | .int i=>some (.inl i)
 | .str x=>some (.inr x)
 | _=>none
def oE {a:D} {q:Key} (h:kOf a=some q):a=kD q:=by
 cases a <;> cases h <;> rfl
def kX {K:PySem.W.Frag} {O:AS} {H:Hp} {a:D} {q:Key} {d:Nat} {v:V} {F:AS} (h:kOf a=some q) (o:Ow K O H a d v F):v=kV q:=by
 cases a with
 | int i=>cases h; exact o
 | str i=>cases h; exact o
 | _=>cases h
def bF (ks:List (D × D)) (q:D):Option D:=(ks.find? fun kv=>kEq kv.1 q).map (·.2)
def fh (ks:List (D × D)) (q t:D):List (D × D):=if ks.any (fun kv=>kEq kv.1 q) then ks.map (fun kv=>if kEq kv.1 q then (kv.1,t) else kv) else ks++[(q,t)]
section
variable {K:PySem.W.Frag} {O:AS} {H:Hp} {d:Nat}
def Owd.look:∀ {ks:List (D × D)} {vs:List (Key × V)} {F:AS} (q:Key),Owd K O H ks d vs F->(∃ t v,bF ks (kD q)=some t/\cu vs q=some v/\Ow K O H t d v F)\/(bF ks (kD q)=none/\cu vs q=none)
 | [],_,_,q,h=>by rw [show _=[] from h]; exact .inr ⟨rfl,rfl⟩
 | (k,t) :: ks,_,F,q,h=>by
  obtain ⟨q',v,r,F1,F2,e,e2,s1,s2,_,h4,h5⟩:=h;subst e e2;by_cases hq:q'=q
  ·subst hq;refine .inl ⟨t,v,?_,fP rfl,Ow.grow (fun _ z=>z) t s1 h4⟩;unfold bF;rw [List.find?_cons,jg,zaB rfl];rfl
  ·have e1:bF ((kD q',t) :: ks) (kD q)=bF ks (kD q):=by
    unfold bF;rw [List.find?_cons,jg,zaA hq]
   have e2:cu ((q',v) :: r) q=cu r q:=fQ hq;rw [e1,e2];rcases Owd.look q h5 with ⟨t',v',a1,a2,a3⟩ | z
   ·exact .inl ⟨t',v',a1,a2,Ow.grow (fun _ z=>z) t' s2 a3⟩
   ·exact .inr z
def Owd.any:∀ {ks:List (D × D)} {vs:List (Key × V)} {F:AS} (q:Key),Owd K O H ks d vs F->ks.any (fun kv=>kEq kv.1 (kD q))=vs.any (fun kv=>decide (kv.1=q))
 | [],_,_,q,h=>by rw [show _=[] from h]; rfl
 | (k,t) :: ks,_,F,q,h=>by
  obtain ⟨q',v,r,F1,F2,e,e2,_,_,_,_,h5⟩:=h;subst e e2;rw [List.any_cons,List.any_cons,jg,Owd.any q h5]
def Owd.len:∀ {ks:List (D × D)} {vs:List (Key × V)} {F:AS},Owd K O H ks d vs F->vs.length=ks.length
 | [],_,_,h=>by rw [show _=[] from h]; rfl
 | (k,t) :: ks,_,F,h=>by
  obtain ⟨q',v,r,F1,F2,e,e2,_,_,_,_,h5⟩:=h;rw [e,zac,zac,h5.len]
def Owd.rep0 {t:D} {v:V} {q:Key} (ht:Ow K O H t 0 v NoA):∀ {ks:List (D × D)} {vs:List (Key × V)},Owd K O H ks 0 vs NoA->Owd K O H (ks.map fun kv=>if kEq kv.1 (kD q) then (kv.1,t) else kv) 0 (vs.map fun kv=>if kv.1=q then (kv.1,v) else kv) NoA
 | [],_,h=>by rw [show _=[] from h]; rfl
 | (k,u) :: ks,_,h=>by
  obtain ⟨q',w,r,F1,F2,e,e2,_,_,_,h4,h5⟩:=h;subst e e2;rw [zar,zar];have ih:=Owd.rep0 (q:=q) ht (Owd.any0 ks h5)
  dsimp only
  rw [jg];by_cases hq:q'=q
  ·rw [if_pos hq,if_pos (zaB hq)];exact ⟨q',v,_,NoA,NoA,rfl,rfl,fun _ z=>z,fun _ z=>z,fun _ z=>z.elim,ht,ih⟩
  ·rw [if_neg hq,if_neg (by rw [zaA hq]; exact Bool.false_ne_true)];exact ⟨q',w,_,NoA,NoA,rfl,rfl,fun _ z=>z,fun _ z=>z,fun _ z=>z.elim,Ow.any0 u h4,ih⟩
def Owd.snoc0 {t:D} {v:V} {q:Key} (ht:Ow K O H t 0 v NoA):∀ {ks:List (D × D)} {vs:List (Key × V)},Owd K O H ks 0 vs NoA->Owd K O H (ks++[(kD q,t)]) 0 (vs++[(q,v)]) NoA
 | [],_,h=>by
  rw [show _=[] from h];exact ⟨q,v,[],NoA,NoA,rfl,rfl,fun _ z=>z,fun _ z=>z,fun _ z=>z.elim,ht,rfl⟩
 | (k,u) :: ks,_,h=>by
  obtain ⟨q',w,r,F1,F2,e,e2,_,_,_,h4,h5⟩:=h;subst e e2;exact ⟨q',w,_,NoA,NoA,rfl,rfl,fun _ z=>z,fun _ z=>z,fun _ z=>z.elim,Ow.any0 u h4,Owd.snoc0 ht (Owd.any0 ks h5)⟩
def Owd.put0 {t:D} {v:V} {q:Key} {ks:List (D × D)} {vs:List (Key × V)} (h:Owd K O H ks 0 vs NoA) (ht:Ow K O H t 0 v NoA):Owd K O H (fh ks (kD q) t) 0 (bp vs q v) NoA:=by
 unfold fh bp;rw [h.any q];by_cases hq:(vs.any fun kv=>decide (kv.1=q))=true
 ·rw [if_pos hq,if_pos hq];exact Owd.rep0 ht h
 ·rw [if_neg hq,if_neg hq];exact Owd.snoc0 ht h
def Owd.past {ks:List (D × D)} {vs:List (Key × V)} {F:AS} {l:Addr} {o:HO} {O':AS} (ho:∀ a,O' a->O a) (hl:O l) (hf:∀ b,F b->b≠l) (h:Owd K O H ks d vs F):Owd K O' (upd H l o) ks d vs F:=by
 refine Owd.mv (G:=F) ⟨fun a u q z=>?_,fun a z=>.inl (ho a z)⟩ ks (fun _ z=>z) h;rw [aC]
 ·exact q
 ·intro za;subst za;rcases z with z | z
  ·exact z hl
  ·exact hf a z rfl
def noT:List (D × D)->Bool
 | (.tuple _,_) :: _=>false
 | (.none,_) :: _=>false
 | _=>true
def Ow.dict0 {ks:List (D × D)} {v:V} (hk:noT ks=true) (h:Ow K O H (.dict ks) 0 v NoA):∃ a vs,v=.ref a/\H a=some (.dK vs)/\Owd K O H ks 0 vs NoA:=by
 obtain ⟨a,vs,e,⟨_,h1,_,h2⟩ | ⟨z,_⟩ | ⟨_,⟨kk,b,h1,_⟩ | ⟨cn,C,h1,_⟩⟩⟩:=h
 ·exact ⟨a,vs,e,h1,h2⟩
 ·exact absurd rfl z
 ·rw [h1] at hk;cases hk
 ·rw [h1] at hk;cases hk
def Ow.dict1 {ks:List (D × D)} {v:V} {F:AS} (hd:d≠0) (h:Ow K O H (.dict ks) d v F):∃ a vs,v=.ref a/\H a=some (.dK vs)/\F a/\∃ F':AS,(∀ b,F' b->F b/\b≠a)/\Owd K O H ks (dn d) vs F':=by
 obtain ⟨a,vs,e,⟨z,_⟩ | ⟨_,h1,h2,h3⟩ | ⟨z,_⟩⟩:=h
 ·exact absurd z hd
 ·exact ⟨a,vs,e,h1,h2,h3⟩
 ·exact absurd z hd
end
def kE:ME:=eC (.dict [])
def Em:D->D->Option D
 | .dict ks,q=>(kOf q).bind fun _=>bF ks q
 | _,_=>none
def dIn:D->D->Option D
 | q,.dict ks=>if noT ks=true then (kOf q).map fun _=>.bool (bF ks q).isSome else none
 | _,_=>none
def fL:D->D->Option D
 | q,.dict ks=>if noT ks=true then (kOf q).map fun _=>.bool (!(bF ks q).isSome) else none
 | _,_=>none
section
variable {X:Cx} {K:PySem.W.Frag} {p:Bool} {J:Jd} {ds ds0 ds1 ds2 ds':List Nat} {d d' d1 d2:Nat} {a b c e o k:Expr} {f f1 f2 fk fe:ME} {pos px spos:Pos} {i:Nat} {σ:St} {H:Hp} {Q:VK} {Dn:Ends}
def yb:PE X (.Dict [] [] pos) (tF K p ds ds 3 kE):=pe_dnewK.imp fun σ H Q ⟨Ox,en,R,t,en',e,hf,k⟩=>by
 cases hf;intro l hl;have n:NewTo H (upd H l (.dK [])) (fun b=>b=l):=bq hl;exact k (.ref l) _ R _ (Post.new e n.1 n.2) ⟨l,[],rfl,.inr (.inl ⟨by decide,aF,rfl,NoA,fun _ z=>z.elim,rfl⟩)⟩
def hC (i:Nat) (f:ME):ME:=fun en=>(en[i]?).join.bind fun _=>(f en).bind fun r=>match (r.2[i]?).join with
 | some (.dict ks)=>(kOf r.1).bind fun _=>(bF ks r.1).map fun t=>(t,r.2)
 | _=>none
def Dk {neg:Bool} (h:tF K p ds ds2 3 (e2 (if neg then fL else dIn) f1 f2) σ H Q):(if neg then md else Dw) (tF K p ds ds1 d1 f1) (tF K p ds1 ds2 d2 f2) σ H Q:=by
 obtain ⟨Ox,en,R,t,en',e,hf,k⟩:=h;unfold e2 at hf;obtain ⟨⟨t1,en1⟩,h1,hf⟩:=zaa.mp hf;obtain ⟨⟨t2,en2⟩,h2,hf⟩:=zaa.mp hf;obtain ⟨t',h3,hf⟩:=zab.mp hf;cases hf;have go:∀ (b:Bool->Bool),(∃ q ks,t2=.dict ks/\noT ks=true/\kOf t1=some q/\t=.bool (b (bF ks t1).isSome))->tF K p ds ds1 d1 f1 σ H fun y H1=>tF K p ds1 ds2 d2 f2 σ H1 fun x H2=>∃ a o,x=.ref a/\DGet H2 a y o/\Q (.bl (b o.isSome)) H2:=fun b ⟨q,ks,e1,hk,e2,e3⟩=>by
  subst e1 e3;refine two (p1:=p) (p2:=p) e h1 h2 fun x y H2 R2 F1 F2 P o1 o2=>?_;rw [Bool.and_self] at P;obtain ⟨a,vs,ex,ha,ow⟩:=(Ow.letgo P (fun _=>.inr) o2).dict0 hk;rw [oE e2] at k;rcases ow.look q with ⟨t',v,a1,a2,a3⟩ | ⟨z1,z2⟩
  ·rw [a1] at k;refine ⟨a,some v,ex,?_,k _ H2 R2 NoA (P.less fun _ z=>z.elim) rfl⟩;rw [<- a2,kX e2 o1];exact DGet.k ha
  ·rw [z1] at k;refine ⟨a,none,ex,?_,k _ H2 R2 NoA (P.less fun _ z=>z.elim) rfl⟩;rw [<- z2,kX e2 o1];exact DGet.k ha
 cases neg with
 | true =>
  refine go (fun b=>!b) ?_;cases t2 with
  | dict ks =>
   have h4:(if noT ks=true then (kOf t1).map (fun _=>PyData.bool (!(bF ks t1).isSome)) else none)=some t:=h3;by_cases hk:noT ks=true
   ·rw [if_pos hk] at h4;obtain ⟨q,hq,e⟩:=zab.mp h4;exact ⟨q,ks,rfl,hk,hq,e.symm⟩
   ·rw [if_neg hk] at h4; cases h4
  | _=>cases t1 <;> cases h3
 | false =>
  refine go (fun b=>b) ?_;cases t2 with
  | dict ks =>
   have h4:(if noT ks=true then (kOf t1).map (fun _=>PyData.bool (bF ks t1).isSome) else none)=some t:=h3;by_cases hk:noT ks=true
   ·rw [if_pos hk] at h4;obtain ⟨q,hq,e⟩:=zab.mp h4;exact ⟨q,ks,rfl,hk,hq,e.symm⟩
   ·rw [if_neg hk] at h4; cases h4
  | _=>cases t1 <;> cases h3
def PC.imp {op:CmpOp} {t t':TE} (h:PC X op a b t) (hi:∀ σ H Q,t' σ H Q->t σ H Q):PC X op a b t':=fun pins s σ H Q I hw=>h pins s σ H Q I (hi _ _ _ hw)
def xy (hu:X.A.units+1 < cLine) (ha:PE X a (tF K p ds ds1 d1 f1)) (hb:PE X b (tF K p ds1 ds2 d2 f2)) (h1:behindInMarks .NotIn b=false):PT X (.Compare a [.NotIn] [b] pos) (tFT K p ds ds2 (tV (e2 fL f1 f2))) :=
 (AQ ((nY hu ha hb).imp fun _ _ _=>Dk (neg:=true)) h1).imp fun _ _ _=>lq
def bY (i:Nat) (fk fe:ME):MS:=fun en=>(fe en).bind fun r=>match (r.2[i]?).join with
 | some _=>(fk r.2).bind fun q=>match (q.2[i]?).join with
  | some (.dict ks)=>(kOf q.1).bind fun _=>if ks.length < sizeLine then some (.nx (q.2.set i (some (.dict (fh ks q.1 r.1))))) else none
  | _=>none
 | none=>none
def xG (hd:ds2[i]?=some 1) (h:tFS K J ds ds2 (bY i fk fe) Dn σ H):wn (cR i) (tF K false ds1 ds2 d2 fk) (tF K false ds ds1 0 fe) Dn σ H:=by
 obtain ⟨Ox,en,R,fl,e,hf,k⟩:=h;unfold bY at hf;obtain ⟨⟨t1,en1⟩,h1,hf⟩:=zaa.mp hf
 dsimp only at hf
 split at hf
 case h_2=>cases hf
 next tt h0 =>
 obtain ⟨⟨t2,en2⟩,h2,hf⟩:=zaa.mp hf
 dsimp only at hf
 split at hf
 case h_2=>cases hf
 next ks h3 =>
 obtain ⟨q,hq,hf⟩:=zaa.mp hf;by_cases hlen:ks.length < sizeLine
 case neg=>rw [if_neg hlen] at hf; cases hf
 rw [if_pos hlen] at hf;cases hf;refine ⟨Ox,en,R,t1,en1,e,h1,fun x H1 R1 F1 P1 o1=>?_⟩;obtain ⟨v0,d0,a1,_,_⟩:=P1.env.at_ i tt (aI h0);refine ⟨v0,a1,?_⟩;refine ⟨U F1 Ox,en1,R1,t2,en2,P1.env,h2,fun y H2 R2 F2 P2 o2=>?_⟩;have P:=P1.trans P2;have o1':=Ow.over P1.env P2 o1;have w1:=Ow.letgo P (fun _=>.inl) o1';obtain ⟨v',d',b1,b2,b3⟩:=P.env.at_ i _ (aI h3);rw [a1] at b1;cases b1;rw [hd] at b2;cases b2;obtain ⟨l,vs,el,hl,hr,F',hf',ow⟩:=b3.dict1 (by decide);have eq:=kX hq o2;subst eq;refine ⟨l,_,el,DPut.k hl (by rw [ow.len]; exact hlen),?_⟩;have hi:i < en2.length:=(zah.mp (aI h3)).1;have gG:∀ a,(fun a=>R2 i a) a->R2 i a\/U F1 F2 a:=fun a z=>.inl z;have sub:=ia (i:=i) (R1:=R2) (Ox:=Ox) (G:=fun a=>R2 i a) (F':=NoA) (F:=U F1 F2) gG (fun _ z=>z.elim);have Ol:Own R2 (U (U F1 F2) Ox) l:=.inl ⟨i,hr⟩;have PS:=P.slot (G:=fun a=>R2 i a) (F':=NoA) (o2:=.dK (bp vs q x)) (t:=.dict (fh ks t2 t1)) hr hi a1 hd gG (fun _ z=>z.elim) (fun _ _ z=>z) ?_
 ·exact k σ _ _ PS.s
 refine ⟨l,bp vs q x,el,.inr (.inl ⟨by decide,aF,hr,NoA,fun _ z=>z.elim,?_⟩)⟩;rw [oE hq];refine Owd.put0 (Owd.past sub Ol (fun _ z=>z.elim) (Owd.any0 ks ow)) ?_;refine Ow.past (O:=Own R2 Ox) (fun a z=>?_) (.inl ⟨i,hr⟩) (fun _ z=>z.elim) w1;rcases z with ⟨j,z⟩ | z | z
 ·by_cases hj:j=i
  ·rw [if_pos hj] at z; exact .inl ⟨i,z⟩
  ·rw [if_neg hj] at z; exact .inl ⟨j,z⟩
 ·exact z.elim
 ·exact .inr z
def qt {x:Str} (hu:X.A.units+1 < cLine) (hN:X.N[i]?=some x) (hv:Vis X.env.scope x) (he:PE X e (tF K false ds ds1 0 fe)) (hk:PE X k (tF K false ds1 ds2 d2 fk)) (h1:ds2[i]?=some 1)
  (hdb:(x == ("__debug__" : Str))=false) (hcd:(x == ("__classdict__" : Str))=false) (hs:swapsWith e (some (.Subscript (.Name x px) k spos)) pos.line X.env=pure false) :
  PS X (.Assign [.Subscript (.Name x px) k spos] e pos) (tFS K J ds ds2 (bY i fk fe)):=(w4 hu (bG hN hv hdb hcd) hk he hs).imp fun _ _ _=>xG h1
end
def evP:List (ME × ME)->En->Option (List (D × D) × En)
 | [],en=>some ([],en)
 | (fk,fv) :: r,en=>(fk en).bind fun x=>(fv x.2).bind fun y=>(evP r y.2).bind fun z=>(kOf x.1).map fun _=>((x.1,y.1) :: z.1,z.2)
def Be (ks:List (D × D)):List (D × D):=ks.foldl (fun acc kv=>fh acc kv.1 kv.2) []
def Do (fs:List (ME × ME)):ME:=fun en=>(evP fs en).bind fun r=>if r.1.length<=15 then some (.dict (Be r.1),r.2) else none
section
variable {X:Cx} {K:PySem.W.Frag} {p:Bool} {J:Jd} {ds ds0 ds1 ds2 ds':List Nat} {d d' d1 d2:Nat} {a b c e o k:Expr} {es:List Expr} {f f1 f2 fk fe:ME} {fa:MA} {sh:Sh} {pos px spos:Pos} {i j:Nat} {σ:St} {H:Hp} {Q:VK} {Dn:Ends}
def Eb (i j:Nat) (fa:MA):MS:=fun en=>(fa en).bind fun r=>match r.1 with
 | [.inl a,.inl b]=>some (.nx ((r.2.set i (some a)).set j (some b)))
 | _=>none
end
section
variable {X:Cx} {K:PySem.W.Frag}
end
section
variable {X:Cx} {K:PySem.W.Frag} {O:AS} {H:Hp} {ts us:List D} {vs ws:List V} {x y:V} {d:Nat} {Q:VK}
def dk:List D->Option (List Int)
 | []=>some []
 | .int i :: r=>(dk r).map (i :: ·)
 | _ :: _=>none
def kW:∀ {ts:List D} {vs:List V} {bs:List Int},Ows K O H ts 0 vs NoA->dk ts=some bs->vs=bs.map V.int
 | [],_,_,h,hb=>by cases hb; exact h
 | .int b :: r,_,_,h,hb=>by
  obtain ⟨v,w,F1,F2,e,_,_,_,h4,h5⟩:=h;obtain ⟨bs',h6,h7⟩:=zab.mp hb;subst e h7;rw [show v=.int b from h4,kW (Ows.any0 r h5) h6];rfl
 | .none :: _,_,_,_,hb=>by cases hb
 | .bool _ :: _,_,_,_,hb=>by cases hb
 | .str _ :: _,_,_,_,hb=>by cases hb
 | .list _ :: _,_,_,_,hb=>by cases hb
 | .tuple _ :: _,_,_,_,hb=>by cases hb
 | .dict _ :: _,_,_,_,hb=>by cases hb
def Ea:List D->Option D
 | [.list ts]=>(dk ts).map fun ns=>.int ns.sum
 | _=>none
end
section
variable {X:Cx} {K:PySem.W.Frag} {p:Bool} {ds ds1:List Nat} {O:AS} {H:Hp} {σ:St} {d:Nat} {f:ME} {i:Nat} {e:Expr} {Q:VK}
end
section
variable {X:Cx} {K:PySem.W.Frag} {p:Bool} {ds ds1:List Nat} {d:Nat} {fa:MA} {sh:Sh} {O O1:AS} {H0 H:Hp} {ts us:List D} {vs ws:List V} {a b:Addr}
def pC (ts us:List D):List D:=List.zipWith (fun x y=>.tuple [x,y]) ts us
def D6 (fa:MA):MI:=fun en=>(fa en).bind fun r=>match r.1 with
 | [.inl (.list ts),.inl (.list us)]=>some (pC ts us,r.2)
 | _=>none
end
section
variable {X:Cx} {K:PySem.W.Frag} {p:Bool} {ds ds1:List Nat} {d1:Nat} {e:Expr} {f:ME}
end
section
variable {X:Cx} {K:PySem.W.Frag} {p p1 p2:Bool} {ds ds1 ds2:List Nat} {d d1:Nat} {e:Expr} {f:ME} {fa:MA} {sh:Sh} {σ:St} {H:Hp} {Q:VK}
def eM (g:Str->List D->Option D) (f:ME) (fa:MA):ME:=fun en=>(f en).bind fun r=>match r.1 with
 | .str z=>(fa r.2).bind fun q=>(vals q.1).bind fun ts=>(g z ts).map fun t=>(t,q.2)
 | _=>none
def D5:Str->List D->Option D
 | sep,[.list ts]=>(strsOf ts).bind fun ys=>if sep.length<=16/\(ys.map (·.length)).sum+ys.length<=1048576 then some (.str (Txt.join sep ys)) else none
 | sep,[.tuple ts]=>(strsOf ts).bind fun ys=>if sep.length<=16/\(ys.map (·.length)).sum+ys.length<=1048576 then some (.str (Txt.join sep ys)) else none
 | _,_=>none
where strsOf:List D->Option (List Str)
 | []=>some []
 | .str z :: r=>(strsOf r).map (z :: ·)
 | _ :: _=>none
def DM:Str->List D->Option D
 | z,[.str y]=>some (.bool (Txt.startswith z y))
 | _,_=>none
def D7:Str->List D->Option D
 | z,[.str y]=>some (.bool (Txt.endswith z y))
 | _,_=>none
end
section
variable {X:Cx} {K:PySem.W.Frag} {pins:List (Addr × Obj)} {σ:St} {H:Hp} {s:Shared} {O:AS}
mutual
theorem Ow.reads (I:Inv X pins σ H s):∀ (t:D) {v:V} {u:Value},aj t=true->Ow X.K O H t 0 v NoA->RelV v u->∃ as,Reads s.heap u t as
 | .none,_,_,_,h,r=>by
  cases (show _=V.non from h);cases r;exact ⟨_,.none⟩
 | .bool b,_,_,_,h,r=>by
  cases (show _=V.bl b from h);cases r;exact ⟨_,.bool _⟩
 | .int i,_,_,_,h,r=>by
  cases (show _=V.int i from h);obtain ⟨t,rfl⟩:=r;exact ⟨_,.int _ _⟩
 | .str x,_,_,_,h,r=>by
  cases (show _=V.str x from h);obtain ⟨t,rfl⟩:=r;exact ⟨_,.str _ _⟩
 | .list ts,_,_,hn,h,r=>by
  obtain ⟨p,vs,rfl,fz,w⟩:=h.lst0;cases r;obtain ⟨its,rv,⟨o,n,e1,e2,_,e3⟩,_⟩:=I.list fz.sq;obtain ⟨as,ra⟩:=Ows.reads I ts (by simpa [aj] using hn) w rv;exact ⟨_,.list e1 e2 e3 (by simpa using ra)⟩
 | .tuple ts,_,_,hn,h,r=>by
  obtain ⟨p,vs,rfl,fz,w⟩:=h.tup0;cases r;obtain ⟨its,rv,⟨o,e1,e2,n,e3⟩,_⟩:=I.tuple fz.sq;obtain ⟨as,ra⟩:=Ows.reads I ts (by simpa [aj] using hn) w rv;exact ⟨_,.tuple e1 e2 e3 (by simpa using ra)⟩
 | .dict _,_,_,hn,_,_=>by simp [aj] at hn
theorem Ows.reads (I:Inv X pins σ H s):∀ (ts:List D) {vs:List V} {us:List Value},au ts=true->Ows X.K O H ts 0 vs NoA->Vals vs us->∃ as,ReadsAll s.heap us ts as
 | [],_,_,_,h,r=>by
  cases (show _=[] from h);cases r;exact ⟨_,.nil⟩
 | t :: ts,_,_,hn,h,r=>by
  obtain ⟨v,q,F1,F2,e,_,_,_,h4,h5⟩:=h;subst e;have hn':aj t=true/\au ts=true:=by simpa [au] using hn
  cases r with
  | cons ru rr =>
   obtain ⟨as,a1⟩:=Ow.reads I t hn'.1 (Ow.any0 t h4) ru;obtain ⟨bs,a2⟩:=Ows.reads I ts hn'.2 (Ows.any0 ts h5) rr;exact ⟨_,.cons a1 a2⟩
end
end
section
open PySem.SeqAt Classical
variable {X:Cx} {K:PySem.W.Frag} {pins:List (Addr × Obj)} {σ:St} {H:Hp} {s:Shared} {O:AS}
noncomputable def eqF (X:Cx) (O:AS) (H:Hp) (a:D) (u:Value):Bool:=decide (∃ d v,RelV v u/\aj d=true/\Ow X.K O H d 0 v NoA/\peq d a=true)
def pi (I:Inv X pins σ H s) {a d:D} {v:V} {u:Value} (r:RelV v u) (hn:aj d=true) (o:Ow X.K O H d 0 v NoA):eqF X O H a u=peq d a:=by
 unfold eqF;cases h:peq d a with
 | true=>exact zaB ⟨d,v,r,hn,o,h⟩
 | false =>
  refine zaA fun ⟨d',v',r',hn',o',h'⟩=>?_;have e:=r.inj r';subst e
  have:=Ow.inj I d d' o o' hn;subst this;rw [h] at h';cases h'
def jV (I:Inv X pins σ H s) {a:D}:∀ {ts:List D} {vs:List V} {us:List Value},au ts=true->Ows X.K O H ts 0 vs NoA->Vals vs us->us.any (eqF X O H a)=ts.any fun t=>peq t a
 | [],_,_,_,h,r=>by
  cases (show _=[] from h);cases r;rfl
 | t :: ts,_,_,hn,h,r=>by
  obtain ⟨v,q,F1,F2,e,_,_,_,h4,h5⟩:=h;subst e;have hn':aj t=true/\au ts=true:=by simpa [au] using hn
  cases r with
  | cons ru rr=>rw [List.any_cons,List.any_cons,pi I ru hn'.1 (Ow.any0 t h4),jV I hn'.2 (Ows.any0 ts h5) rr]
def jG (I:Inv X pins σ H s) {A:Around} {a:D} {x:V} {v:Value} (hna:aj a=true) (oa:Ow X.K O H a 0 x NoA) (ra:RelV x v) (hu:A.units+60+1 < cLine):∀ {ts:List D} {vs:List V} {us:List Value},au ts=true->aU ts<=60->Ows X.K O H ts 0 vs NoA->Vals vs us->∀ u∈us,EqAt A s u v (eqF X O H a u)
 | [],_,_,_,_,h,r=>by
  cases (show _=[] from h);cases r;exact fun u hu=>by cases hu
 | t :: ts,_,_,hn,hdp,h,r=>by
  obtain ⟨w,q,F1,F2,e,_,_,_,h4,h5⟩:=h;subst e;have hn':aj t=true/\au ts=true:=by simpa [au] using hn
  have hd':a7 t<=60/\aU ts<=60:=by simp only [aU] at hdp; omega
  cases r with
  | cons ru rr =>
   intro u' hu';rcases zay.mp hu' with rfl | hu'
   ·rw [pi I ru hn'.1 (Ow.any0 t h4)];exact (nB I 60 t a A w x _ v hd'.1 hn'.1 hna (Ow.any0 t h4) oa ru ra hu).1
   ·exact jG I hna oa ra hu hn'.2 hd'.2 (Ows.any0 ts h5) rr u' hu'
def inL:D->D->Option D
 | x,.list ts=>grd (aj x=true/\au ts=true/\aU ts<=60) (.bool (ts.any fun t=>peq t x))
 | x,.tuple ts=>grd (aj x=true/\au ts=true/\aU ts<=60) (.bool (ts.any fun t=>peq t x))
 | _,_=>none
def CZ (hK:X.K=K) (hu:X.A.units+64 < cLine):OpR X (compareOp .In) (rF2 K inL 3):=by
 subst hK;intro pins s σ H x y v u Q I rx ry ⟨O,a,b,t,oa,ob,hd,hg,k⟩;have hu1:X.A.in1.units+60+1 < cLine:=by show X.A.units+1+60+1 < cLine; omega
 cases b with
 | list ts =>
  obtain ⟨⟨c1,c2,c3⟩,rfl⟩:=bQ hg;obtain ⟨p,vs,rfl,fz,w⟩:=ob.lst0;cases ry;obtain ⟨its,r,pl,hz⟩:=I.list fz.sq;refine SeqAt.in_listAt (eqF X O H a) pl.isList (fun z hz=>jG I c1 oa rx hu1 c2 c3 w r z (by simpa using hz)) ⟨.bl _,H,I,rfl,?_⟩;rw [show its.toArray.any (eqF X O H a)=its.any (eqF X O H a) by simp,jV I c2 w r];exact k _ H NoA .refl rfl
 | tuple ts =>
  obtain ⟨⟨c1,c2,c3⟩,rfl⟩:=bQ hg;obtain ⟨p,vs,rfl,fz,w⟩:=ob.tup0;cases ry;obtain ⟨its,r,pl,hz⟩:=I.tuple fz.sq;refine SeqAt.in_tupleAt (eqF X O H a) pl (fun z hz=>jG I c1 oa rx hu1 c2 c3 w r z (by simpa using hz)) ⟨.bl _,H,I,rfl,?_⟩;rw [show its.toArray.any (eqF X O H a)=its.any (eqF X O H a) by simp,jV I c2 w r];exact k _ H NoA .refl rfl
 | _=>cases hg
end
def dns:Nat->Nat->Nat
 | 0,d=>d
 | m+1,d=>dns m (dn d)
def ly:∀ m,dns m 0=0
 | 0=>rfl
 | m+1=>ly m
def Ck {m d:Nat} (h:dns m d≠0):d≠0:=fun z=>h (by rw [z]; exact ly m)
def cU:D->List Nat->Option D
 | t,[]=>some t
 | .list ts,k :: π=>(ts[k]?).bind fun u=>cU u π
 | .tuple ts,k :: π=>(ts[k]?).bind fun u=>cU u π
 | _,_ :: _=>none
def cx:D->List Nat->D->D
 | _,[],u=>u
 | .list ts,k :: π,u=>.list (ts.set k ((ts[k]?).elim .none fun c=>cx c π u))
 | .tuple ts,k :: π,u=>.tuple (ts.set k ((ts[k]?).elim .none fun c=>cx c π u))
 | t,_ :: _,_=>t
def PathV (H:Hp):V->List Nat->V->Prop
 | v,[],w=>v=w
 | v,k :: π,w=>∃ a vs u,v=.ref a/\(H a=some (.lst vs)\/H a=some (.tup vs))/\vs[k]?=some u/\PathV H u π w
def PathV.mono {H H':Hp} (hk:∀ a o,H a=some o->H' a=some o):∀ {π:List Nat} {v w:V},PathV H v π w->PathV H' v π w
 | [],_,_,h=>h
 | _ :: _,_,_,⟨a,vs,u,e,h1,h2,h3⟩=>⟨a,vs,u,e,h1.imp (hk _ _) (hk _ _),h2,h3.mono hk⟩
def PathV.det {H:Hp}:∀ {π:List Nat} {v w w':V},PathV H v π w->PathV H v π w'->w=w'
 | [],_,_,_,h,g=>h.symm.trans g
 | _ :: _,_,_,_,⟨a,vs,u,e,h1,h2,h3⟩,⟨a',vs',u',e',g1,g2,g3⟩=>by
  rw [e] at e';cases e'
  have:vs=vs':=by
   rcases h1 with h1 | h1 <;> rcases g1 with g1 | g1 <;> rw [h1] at g1 <;> cases g1 <;> rfl
  subst this;rw [h2] at g2;cases g2;exact h3.det g3
def PathV.snoc {H:Hp} {a:Addr} {vs:List V} {u:V} {k:Nat} (h1:H a=some (.lst vs)\/H a=some (.tup vs)) (h2:vs[k]?=some u):∀ {π:List Nat} {v:V},PathV H v π (.ref a)->PathV H v (π++[k]) u
 | [],_,h=>⟨a,vs,u,h,h1,h2,rfl⟩
 | _ :: _,_,⟨a',vs',u',e,g1,g2,g3⟩=>⟨a',vs',u',e,g1,g2,PathV.snoc h1 h2 g3⟩
section
variable {K:PySem.W.Frag} {O:AS} {H:Hp}
def Ows.zoom {d:Nat}:∀ {ts:List D} {vs:List V} {F:AS} {k:Nat} {u:D},Ows K O H ts d vs F->ts[k]?=some u ->
  ∃ w,∃ F1 F2:AS,vs[k]?=some w/\(∀ b,F1 b->F b)/\(∀ b,F2 b->F b)/\(∀ b,F1 b->¬ F2 b)/\Ow K O H u d w F1 /\
   ∀ (O':AS) (H':Hp) (u':D) (G:AS),Mv O O' F2 H H'->(∀ b,G b->¬ F2 b)->Ow K O' H' u' d w G->Ows K O' H' (ts.set k u') d vs (fun b=>F2 b\/G b)
 | [],_,_,k,u,_,h=>by simp at h
 | t :: ts,_,F,k,u,h,hk=>by
  obtain ⟨v,r,F1,F2,e,s1,s2,s3,h4,h5⟩:=h;subst e;cases k with
  | zero =>
   have:t=u:=by simpa using hk
   subst this;refine ⟨v,F1,F2,rfl,s1,s2,s3,h4,fun O' H' u' G m hd o=>?_⟩;exact ⟨v,r,G,F2,rfl,fun _ z=>.inr z,fun _ z=>.inl z,hd,o,Ows.mv m ts (fun _ z=>z) h5⟩
  | succ k =>
   obtain ⟨w,G1,G2,g1,g2,g3,g4,g5,g6⟩:=Ows.zoom (k:=k) h5 (by simpa using hk);refine ⟨w,G1,fun b=>F1 b\/G2 b,by simpa using g1,fun b z=>s2 b (g2 b z),fun b z=>z.elim (s1 b) fun z=>s2 b (g3 b z),fun b z z2=>?_,g5,fun O' H' u' G m hd o=>?_⟩
   ·rcases z2 with z2 | z2
    ·exact s3 b z2 (g2 b z)
    ·exact g4 b z z2
   ·refine ⟨v,r,F1,fun b=>G2 b\/G b,rfl,fun b z=>.inl (.inl z),fun b z=>z.imp .inr id,fun b z z2=>?_,Ow.mv ⟨m.k,m.o⟩ t (fun b z=>.inl z) h4,g6 O' H' u' G ⟨fun a o q z=>m.k a o q (z.imp id .inr),m.o⟩ (fun b z z2=>hd b z (.inr z2)) o⟩;rcases z2 with z2 | z2
    ·exact s3 b z (g3 b z2)
    ·exact hd b z2 (.inl z)
def Ow.zoom:∀ {π:List Nat} {t u:D} {d:Nat} {v:V} {F:AS},Ow K O H t d v F->cU t π=some u->dns π.length d≠0 ->
  ∃ w,∃ F1 Fr:AS,PathV H v π w/\(∀ b,F1 b->F b)/\(∀ b,Fr b->F b)/\(∀ b,F1 b->¬ Fr b)/\Ow K O H u (dns π.length d) w F1 /\
   ∀ (O':AS) (H':Hp) (u':D) (G:AS),Mv O O' Fr H H'->(∀ b,G b->¬ Fr b)->Ow K O' H' u' (dns π.length d) w G->Ow K O' H' (cx t π u') d v (fun b=>Fr b\/G b)
 | [],t,u,d,v,F,h,hp,hz=>by
  cases hp;refine ⟨v,F,NoA,rfl,fun _ z=>z,fun _ z=>z.elim,fun _ _ z=>z,h,fun O' H' u' G m hd o=>?_⟩;have e:(fun b=>NoA b\/G b)=G:=dg fun b=>⟨fun z=>z.elim (fun z=>z.elim) id,.inr⟩;rw [e];exact o
 | k :: π,t,u,d,v,F,h,hp,hz=>by
  have hz1:dns π.length (dn d)≠0:=hz;have hd0:d≠0:=Ck (m:=π.length+1) hz;cases t with
  | list ts =>
   obtain ⟨c,p1,p2⟩:=zaa.mp hp;obtain ⟨a,vs,e,⟨h0,_⟩ | ⟨_,h1,h2,F',hf,h3⟩⟩:=h
   ·exact absurd h0 hd0
   obtain ⟨w,G1,G2,g1,g2,g3,g4,g5,g6⟩:=h3.zoom p1;obtain ⟨w2,F1,Fr,q1,q2,q3,q4,q5,q6⟩:=Ow.zoom g5 p2 hz1;refine ⟨w2,F1,fun b=>b=a\/G2 b\/Fr b,⟨a,vs,w,e,.inl h1,g1,q1⟩,fun b z=>(hf b (g2 b (q2 b z))).1,fun b z=>?_,fun b z z2=>?_,q5,fun O' H' u' G m hd o=>?_⟩
   ·rcases z with z | z | z
    ·rw [z]; exact h2
    ·exact (hf b (g3 b z)).1
    ·exact (hf b (g2 b (q3 b z))).1
   ·rcases z2 with z2 | z2 | z2
    ·exact (hf b (g2 b (q2 b z))).2 z2
    ·exact g4 b (q2 b z) z2
    ·exact q4 b z z2
   ·have o1:=q6 O' H' u' G ⟨fun x y q z=>m.k x y q (z.imp id fun z=>.inr (.inr z)),m.o⟩ (fun b z z2=>hd b z (.inr (.inr z2))) o;have o2:=g6 O' H' (cx c π u') (fun b=>Fr b\/G b) ⟨fun x y q z=>m.k x y q (z.imp id fun z=>.inr (.inl z)),m.o⟩ (fun b z z2=>?_) o1
    ·refine ⟨a,vs,e,.inr ⟨hd0,m.k _ _ h1 (.inr (.inl rfl)),.inl (.inl rfl),fun b=>G2 b\/Fr b\/G b,fun b z=>?_,?_⟩⟩
     ·rcases z with z | z | z
      ·exact ⟨.inl (.inr (.inl z)),(hf b (g3 b z)).2⟩
      ·exact ⟨.inl (.inr (.inr z)),(hf b (g2 b (q3 b z))).2⟩
      ·exact ⟨.inr z,fun ze=>hd b z (.inl ze)⟩
     ·rw [p1];exact o2
    ·rcases z with z | z
     ·exact g4 b (q3 b z) z2
     ·exact hd b z (.inr (.inl z2))
  | tuple ts =>
   obtain ⟨c,p1,p2⟩:=zaa.mp hp;obtain ⟨a,vs,e,⟨h0,_⟩ | ⟨_,h1,h2,F',hf,h3⟩⟩:=h
   ·exact absurd h0 hd0
   obtain ⟨w,G1,G2,g1,g2,g3,g4,g5,g6⟩:=h3.zoom p1;obtain ⟨w2,F1,Fr,q1,q2,q3,q4,q5,q6⟩:=Ow.zoom g5 p2 hz1;refine ⟨w2,F1,fun b=>b=a\/G2 b\/Fr b,⟨a,vs,w,e,.inr h1,g1,q1⟩,fun b z=>(hf b (g2 b (q2 b z))).1,fun b z=>?_,fun b z z2=>?_,q5,fun O' H' u' G m hd o=>?_⟩
   ·rcases z with z | z | z
    ·rw [z]; exact h2
    ·exact (hf b (g3 b z)).1
    ·exact (hf b (g2 b (q3 b z))).1
   ·rcases z2 with z2 | z2 | z2
    ·exact (hf b (g2 b (q2 b z))).2 z2
    ·exact g4 b (q2 b z) z2
    ·exact q4 b z z2
   ·have o1:=q6 O' H' u' G ⟨fun x y q z=>m.k x y q (z.imp id fun z=>.inr (.inr z)),m.o⟩ (fun b z z2=>hd b z (.inr (.inr z2))) o;have o2:=g6 O' H' (cx c π u') (fun b=>Fr b\/G b) ⟨fun x y q z=>m.k x y q (z.imp id fun z=>.inr (.inl z)),m.o⟩ (fun b z z2=>?_) o1
    ·refine ⟨a,vs,e,.inr ⟨hd0,m.k _ _ h1 (.inr (.inl rfl)),.inl (.inl rfl),fun b=>G2 b\/Fr b\/G b,fun b z=>?_,?_⟩⟩
     ·rcases z with z | z | z
      ·exact ⟨.inl (.inr (.inl z)),(hf b (g3 b z)).2⟩
      ·exact ⟨.inl (.inr (.inr z)),(hf b (g2 b (q3 b z))).2⟩
      ·exact ⟨.inr z,fun ze=>hd b z (.inl ze)⟩
     ·rw [p1];exact o2
    ·rcases z with z | z
     ·exact g4 b (q3 b z) z2
     ·exact hd b z (.inr (.inl z2))
  | _=>cases hp
end
abbrev MP:=En->Option (List Nat × En)
def tP (K:PySem.W.Frag) (p:Bool) (ds ds':List Nat) (i m:Nat) (mp:MP):TE:=fun σ H Q =>
 ∃ Ox en R π en',EnvOk K ds Ox H σ en R/\mp en=some (π,en')/\∀ v w H' R',Post K p ds' Ox σ H en R en' H' R' NoA->π.length=m->σ[i]?=some (some v)->PathV H' v π w->Q w H'
def iP (i:Nat):MP:=fun en=>((en[i]?).join).map fun _=>([],en)
def pIx (i:Nat) (mp:MP) (f:ME):MP:=fun en=>(mp en).bind fun r=>(f r.2).bind fun q=>match q.1,(q.2[i]?).join with
 | .int n,some t=>(cU t r.1).bind fun u=>match u with
  | .list ts=>(ixN ts.length n).bind fun k=>if k < ts.length then some (r.1++[k],q.2) else none
  | .tuple ts=>(ixN ts.length n).bind fun k=>if k < ts.length then some (r.1++[k],q.2) else none
  | _=>none
 | _,_=>none
section
variable {X:Cx} {K:PySem.W.Frag} {p p1 p2:Bool} {J:Jd} {ds ds1 ds2:List Nat} {H:Hp} {σ:St} {d d1 d2 i m:Nat} {f fk fe:ME} {mp:MP} {e b o:Expr} {Q:VK}
def B8 (h:tP K true ds ds i 0 (iP i) σ H Q):cR i σ H Q:=by
 obtain ⟨Ox,en,R,π,en',e,hf,k⟩:=h;unfold iP at hf;obtain ⟨t,h1,h2⟩:=zab.mp hf;cases h2;obtain ⟨v,d,a1,_,_⟩:=e.at_ i t (aI h1);exact ⟨v,a1,k v v H R (Post.refl e) rfl a1 rfl⟩
def De (hpu:p2=true\/m=0) (hd:ds2[i]?=some d) (hz:dns m d≠0) (h:tP K (p1 && p2) ds ds2 i (m+1) (pIx i mp f) σ H Q):tOp (rIx K) (tP K p1 ds ds1 i m mp) (tF K p2 ds1 ds2 d1 f) σ H Q:=by
 obtain ⟨Ox,en,R,π,en',e,hf,k⟩:=h;unfold pIx at hf;obtain ⟨⟨π0,en1⟩,h1,hf⟩:=zaa.mp hf;obtain ⟨⟨t1,en2⟩,h2,hf⟩:=zaa.mp hf
 dsimp only at hf
 split at hf
 case h_2=>cases hf
 next n t h3 =>
 obtain ⟨u,h4,hf⟩:=zaa.mp hf;refine ⟨Ox,en,R,π0,en1,e,h1,fun v w H1 R1 P1 hl hv pv=>?_⟩;refine ⟨Ox,en1,R1,.int n,en2,P1.env0,h2,fun y H2 R2 F P2 o=>?_⟩;have ey:y=.int n:=o;subst ey;have P:=P1.after P2;obtain ⟨v',d',b1,b2,b3⟩:=P.env.at_ i t (aI h3);rw [hv] at b1;cases b1;rw [hd] at b2;cases b2;have pv2:PathV H2 v π0 w:=by
  rcases hpu with hp | hm
  ·exact pv.mono (P2.pure hp).2.2
  ·have e0:π0=[]:=List.length_eq_zero_iff.mp (hl.trans hm);subst e0;exact pv
 obtain ⟨w2,F1,Fr,q1,q2,q3,q4,q5,_⟩:=b3.zoom h4 (by rw [hl]; exact hz);have ew:=pv2.det q1;subst ew;rw [hl] at q5;cases u with
 | list ts =>
  obtain ⟨kk,h5,hf⟩:=zaa.mp hf;by_cases hk:kk < ts.length
  case neg=>rw [if_neg hk] at hf; cases hf
  rw [if_pos hk] at hf;cases hf;obtain ⟨a,vs,ea,ha,_,F',_,ow⟩:=q5.ownL hz;obtain ⟨x,g1,_⟩:=ow.get (zak hk);refine .inl ⟨a,vs,n,x,ea,rfl,SqL.of ha,by unfold atI; rw [ow.len,h5]; exact g1,?_⟩;subst ea;exact k v x H2 R2 (P.less fun _ z=>z.elim) (by rw [zae,hl]; rfl) hv (PathV.snoc (.inl ha) g1 q1)
 | tuple ts =>
  obtain ⟨kk,h5,hf⟩:=zaa.mp hf;by_cases hk:kk < ts.length
  case neg=>rw [if_neg hk] at hf; cases hf
  rw [if_pos hk] at hf;cases hf;obtain ⟨a,vs,ea,⟨h0,_⟩ | ⟨_,ha,_,F',_,ow⟩⟩:=q5
  ·exact absurd h0 hz
  obtain ⟨x,g1,_⟩:=ow.get (zak hk);refine .inr (.inl ⟨a,vs,n,x,ea,rfl,SqT.of ha,by unfold atI; rw [ow.len,h5]; exact g1,?_⟩);subst ea;exact k v x H2 R2 (P.less fun _ z=>z.elim) (by rw [zae,hl]; rfl) hv (PathV.snoc (.inr ha) g1 q1)
 | _=>cases hf
def xM {x:Str} {px:Pos} (hN:X.N[i]?=some x) (hv:Vis X.env.scope x) (hd:(x == ("__debug__" : Str))=false) (hcd:(x == ("__classdict__" : Str))=false):PE X (.Name x px) (tP K true ds ds i 0 (iP i)) :=
 (bG hN hv hd hcd).imp fun _ _ _=>B8
def BJ {pos:Pos} (hK:X.K=K) (hd:ds2[i]?=some d) (ho:PE X o (tP K p1 ds ds1 i m mp)) (hb:PE X b (tF K p2 ds1 ds2 d1 f)) (hz:dns m d≠0) (hpu:p2=true\/m=0) (hs:b0 b):PE X (.Subscript o b pos) (tP K (p1 && p2) ds ds2 i (m+1) (pIx i mp f)):=by
 subst hK;exact (kx ix_seq ho hb hs).imp fun _ _ _=>De hpu hd hz
def Post.place {Ox:AS} {en en1:En} {R R1:Nat->AS} {H1:Hp} {F:AS} {t:D} {π:List Nat} {ts:List D} {v w:V} (P:Post K p ds1 Ox σ H en R en1 H1 R1 F) (hi:en1[i]?=some (some t)) (hv:σ[i]?=some (some v)) (hd:ds1[i]?=some d) (hg:cU t π=some (.list ts)) (hz:dns π.length d≠0) (pv:PathV H1 v π w) :
  ∃ l vs,∃ F1:AS,w=.ref l/\H1 l=some (.lst vs)/\R1 i l/\(∀ b,F1 b->R1 i b/\b≠l)/\Ows K (Own R1 (U F Ox)) H1 ts (dn (dns π.length d)) vs F1 /\
   ∀ (ts':List D) (vs':List V) (G:AS),(∀ b,G b->F1 b\/F b)->(∀ O',(∀ a,O' a->Own R1 (U F Ox) a)->Ows K O' (upd H1 l (.lst vs')) ts' (dn (dns π.length d)) vs' G) ->
    ∃ R',Post K false ds1 Ox σ H en R (en1.set i (some (cx t π (.list ts')))) (upd H1 l (.lst vs')) R' NoA:=by
 obtain ⟨v',d',b1,b2,b3⟩:=P.env.at_ i t hi;rw [hv] at b1;cases b1;rw [hd] at b2;cases b2;obtain ⟨w2,F1,Fr,q1,q2,q3,q4,q5,q6⟩:=b3.zoom hg hz;have ew:=pv.det q1;subst ew;obtain ⟨l,vs,el,hl,hr,F',hf',ow⟩:=q5.ownL hz;refine ⟨l,vs,F',el,hl,q2 l hr,fun b z=>⟨q2 b (hf' b z).1,(hf' b z).2⟩,ow,fun ts' vs' G hG hO=>?_⟩;have hlen:i < en1.length:=(zah.mp hi).1;have gl:∀ b,F b->b≠l:=fun b z ze=>by
  subst ze;exact P.env.dx i b (q2 b hr) (.inl z)
 have gG:∀ a,(fun b=>Fr b\/(b=l\/G b)) a->R1 i a\/F a:=fun a z=>by
  rcases z with z | z | z
  ·exact .inl (q3 a z)
  ·rw [z]; exact .inl (q2 l hr)
  ·rcases hG a z with z | z
   ·exact .inl (q2 a (hf' a z).1)
   ·exact .inr z
 have sub:=ia (i:=i) (R1:=R1) (Ox:=Ox) (G:=fun b=>Fr b\/(b=l\/G b)) (F':=NoA) (F:=F) gG (fun _ z=>z.elim);have Ol:Own R1 (U F Ox) l:=.inl ⟨i,q2 l hr⟩;refine ⟨_,P.slot (G:=fun b=>Fr b\/(b=l\/G b)) (q2 l hr) hlen hv hd gG (fun _ z=>z.elim) (fun _ _ z=>z) ?_⟩;refine q6 _ _ (.list ts') (fun b=>b=l\/G b) ⟨fun a o q z=>?_,fun a z=>.inl (sub a z)⟩ (fun b z z2=>?_) ?_
 ·rw [aC]
  ·exact q
  ·intro za;subst za;rcases z with z | z
   ·exact z Ol
   ·exact q4 a hr z
 ·rcases z with z | z
  ·rw [z] at z2; exact q4 l hr z2
  ·rcases hG b z with z | z
   ·exact q4 b (hf' b z).1 z2
   ·exact P.env.dx i b (q3 b z2) (.inl z)
 ·refine ⟨l,vs',el,.inr ⟨hz,aF,.inl rfl,G,fun b z=>⟨.inr z,?_⟩,hO _ sub⟩⟩;rcases hG b z with z | z
  ·exact (hf' b z).2
  ·exact gl b z
def gm (i:Nat) (mp:MP) (f:ME):ME:=fun en=>(mp en).bind fun r=>match (r.2[i]?).join with
 | some t=>(cU t r.1).bind fun u=>match u with
  | .list ts=>(f r.2).bind fun q=>if ts.length < sizeLine then some (.none,q.2.set i (some (cx t r.1 (.list (ts++[q.1]))))) else none
  | _=>none
 | none=>none
def pW {K:PySem.W.Frag} {H:Hp} {l:Addr} {vs:List V} (h:H l=some (.lst vs)):tyV K "list" (.ref l) H:=.inl ⟨rfl,vs,SqL.of h⟩
def Cc {c:Nat} (hd1:ds1[i]?=some d) (hd:ds2[i]?=some d) (hz:dns m d≠0) (hc:dn (dns m d)=c) (h:tF K false ds ds2 3 (gm i mp f) σ H Q):tBM K "list" jC (tP K p1 ds ds1 i m mp) (ik (tF K true ds1 ds2 c f) kM) σ H Q:=by
 obtain ⟨Ox,en,R,t0,en',e,hf,k⟩:=h;unfold gm at hf;obtain ⟨⟨π,en1⟩,h1,hf⟩:=zaa.mp hf
 dsimp only at hf
 split at hf
 case h_2=>cases hf
 next t h3 =>
 obtain ⟨u,h4,hf⟩:=zaa.mp hf;cases u with
 | list ts =>
  dsimp only at hf
  obtain ⟨⟨t1,en2⟩,h2,hf⟩:=zaa.mp hf;by_cases hlen:ts.length < sizeLine
  case neg=>rw [if_neg hlen] at hf; cases hf
  rw [if_pos hlen] at hf;cases hf;refine ⟨Ox,en,R,π,en1,e,h1,fun v w H1 R1 P1 hl hv pv=>?_⟩;subst hl;obtain ⟨l,vs,F1,el,hl1,_⟩:=P1.place (aI h3) hv hd1 h4 hz pv;subst el;refine ⟨pW hl1,Ox,en1,R1,t1,en2,P1.env0,h2,fun x H2 R2 F P2 o=>?_⟩;obtain ⟨pe,pR,ph⟩:=P2.pure rfl;have P:=P1.after P2;have h3':en2[i]?=some (some t):=by rw [pe]; exact aI h3
  obtain ⟨l',vs',F1,el,hl2,hr,hf1,ow,fin⟩:=P.place h3' hv hd h4 hz (pv.mono ph);cases el;refine ⟨l,vs',x,rfl,rfl,hl2,by rw [ow.len]; exact hlen,?_⟩;have Fn:∀ a,F a->a≠l:=fun a z z2=>by
   subst z2;exact P.env.dx i a hr (.inl z)
  have Ol:Own R2 (U F Ox) l:=.inl ⟨i,hr⟩;obtain ⟨R',PF⟩:=fin (ts++[t1]) (vs'++[x]) (U F1 F) (fun _ z=>z) fun O' ho=>by
   refine Ows.snoc (Ows.past ho Ol (fun b z=>(hf1 b z).2) ow) ?_ fun b z1 z2=>P.env.dx i b (hf1 b z1).1 (.inl z2);rw [hc];exact Ow.past ho Ol Fn o
  exact k .non _ R' NoA PF rfl
 | _=>cases hf
def yc {apos cpos:Pos} {c:Nat} (hK:X.K=K) (hd1:ds1[i]?=some d) (hd:ds2[i]?=some d) (ho:PE X o (tP K p1 ds ds1 i m mp)) (he:PE X e (tF K true ds1 ds2 c f)) (hz:dns m d≠0) (hc:dn (dns m d)=c)
  (hbase:attributeBase o "append" X.env (eval o X.env)=eval o X.env)
  (hfew:((backTo cpos (starEach [e] X.env)).all (fun x=>!x.1) && (backToKw cpos (keywordEach [] X.env)).all (fun x=>x.1.isSome) && decide (([e]:List Expr).length+([]:List Keyword).length+(if ([]:List Keyword).isEmpty then 0 else 1) < 30))=true)
  (hline:(apos.endLine == cpos.line)=true) (hs:starEach [e] X.env=[(false,eval e X.env)]) (hplain:(backTo cpos (starEach [] X.env)).any (·.1)=false) :
  PE X (.Call (.Attribute o "append" apos) [e] [] cpos) (tF K false ds ds2 3 (gm i mp f)):=by
 subst hK;exact (wu PySem.F.plainAttrs_list PySem.F.slot_list_append PySem.F.type_list_append gP ho (cV he pa_nil hs) hbase hfew hline hs hplain).imp fun _ _ _=>Cc hd1 hd hz hc
end
def m6 (f:Nat->Str):Nat->List Str
 | 0=>[]
 | i+1=>if (m6 f i).any (· == f i)=true then m6 f i else m6 f i++[f i]
section
variable {P:Program} {w:World} {A:Around} {R:Result->Shared->Prop} {I:Addr} {fp wr:List Addr} {G:Array GenState->Array GenState->Prop} {n:Nat} {Pi:Nat->Value->Prop} {St:Nat->Shared->Prop}
end
section
variable {P:Program} {w:World} {A:Around} {E:Value->Shared->Prop} {s:Shared}
def Cy (z:Str) (i:Nat):Str:=match z.cps[i]? with
 | some c=>mk1 c
 | none=>""
end
section
variable {X:Cx} {K:PySem.W.Frag} {p p1 p2:Bool} {ds ds1 ds2:List Nat} {d d1 d2:Nat} {e k:Expr} {f f1 f2:ME} {fa:MA} {sh:Sh} {σ:St} {H:Hp} {Q Q':VK} {pos pos2 px py:Pos}
def nQ (h:∀ v H,Q v H->Q' v H):tF K p ds ds1 d f σ H Q->tF K p ds ds1 d f σ H Q'
 | ⟨Ox,en,R,t,en',e,hf,k⟩=>⟨Ox,en,R,t,en',e,hf,fun v H' R' F P o=>h _ _ (k v H' R' F P o)⟩
def DR:D->Option D
 | .str z=>grd (z.length < 4000) (.int (m6 (Cy z) z.length).length)
 | _=>none
def Ed:D->D->Option D
 | .list ts,.int (-1)=>some (.list ts.reverse)
 | _,_=>none
def D1:D->D->Option D
 | .tuple ts,.int (-1)=>some (.tuple ts.reverse)
 | _,_=>none
def D2:D->D->Option D
 | .str z,.int (-1)=>grd (z.length<=sizeLine) (.str ⟨z.cps.toList.reverse.toArray⟩)
 | _,_=>none
def DT (fa:MA):MI:=fun en=>(fa en).bind fun r=>match r.1 with
 | [.inl (.str x),.inl (.str y)]=>some (pC (il x) (il y),r.2)
 | _=>none
def isB:D->D->Option D
 | .bool a,.bool b=>some (.bool (a == b))
 | _,_=>none
end
section
variable {X:Cx} {K:PySem.W.Frag} {pins:List (Addr × Obj)} {σ:St} {H:Hp} {s:Shared} {O:AS}
def Paired.at {α β:Type} {F:α->β->Prop}:∀ {xs:List α} {ys:List β} {i:Nat} {x:α},Paired F xs ys->xs[i]?=some x->∃ y,ys[i]?=some y/\F x y
 | _,_,_,_,.nil,e=>by simp at e
 | _,_,0,_,.cons r _,e=>by simp at e; subst e; exact ⟨_,rfl,r⟩
 | _,_,i+1,x,.cons _ t,e=>by
  obtain ⟨u,h1,h2⟩:=Paired.at (i:=i) (x:=x) t (by simpa using e);exact ⟨u,by simpa using h1,h2⟩
end
section
variable {X:Cx} {K:PySem.W.Frag} {p p1 p2:Bool} {ds ds1 ds2:List Nat} {d d1 d2:Nat} {a b:Expr} {f f1 f2:ME} {σ:St} {H:Hp} {Q Q':VK} {pos:Pos} {ta tb:TE} {rest:List Expr}
def Eo:D->Option Int->Option Int->Option D
 | .tuple ts,lo,hi=>grd (¬ (HT.sIx ts.length 0 lo=0/\HT.sIx ts.length ts.length hi=ts.length)) (.tuple (dD ts lo hi))
 | _,_,_=>none
def Du:D->Option Bool
 | .none=>some false
 | .bool b=>some b
 | .list ts=>some (!ts.isEmpty)
 | .tuple ts=>some (!ts.isEmpty)
 | _=>none
def El (f g:ME):ME:=fun en=>(f en).bind fun r=>(Du r.1).bind fun c=>if c then some r else g r.2
end
section
variable {X:Cx} {K:PySem.W.Frag} {p p1 p2:Bool} {ds ds1 ds2:List Nat} {d d1 d2:Nat} {a b:Expr} {f f1 f2:ME} {σ:St} {H:Hp} {Q Q':VK} {pos:Pos}
def iQ (x:Int):List Int->List Int
 | []=>[x]
 | y :: r=>if x<=y then x :: y :: r else y :: iQ x r
def bL:List Int->List Int
 | []=>[]
 | x :: r=>iQ x (bL r)
def gR (x:Int):∀ l,(iQ x l).Perm (x :: l)
 | []=>.refl _
 | y :: r=>by
  unfold iQ;split
  ·exact .refl _
  ·exact (List.Perm.cons y (gR x r)).trans (List.Perm.swap x y r)
def bE:∀ l,(bL l).Perm l
 | []=>.refl _
 | x :: r=>(gR x _).trans (List.Perm.cons x (bE r))
def iE (x:Int):∀ l:List Int,l.Pairwise (·<=·)->(iQ x l).Pairwise (·<=·)
 | [],_=>by simp [iQ]
 | y :: r,h=>by
  obtain ⟨h1,h2⟩:=List.pairwise_cons.mp h;unfold iQ;split
  ·next hx =>
   refine List.pairwise_cons.mpr ⟨fun z hz=>?_,h⟩;rcases zay.mp hz with rfl | hz
   ·exact hx
   ·exact Int.le_trans hx (h1 z hz)
  ·next hx =>
   refine List.pairwise_cons.mpr ⟨fun z hz=>?_,iE x r h2⟩;rcases zay.mp ((gR x r).mem_iff.mp hz) with rfl | hz
   ·omega
   ·exact h1 z hz
def bN:∀ l,(bL l).Pairwise (·<=·)
 | []=>.nil
 | x :: r=>iE x _ (bN r)
def fS:∀ {l m:List Int},l.Perm m->l.Pairwise (·<=·)->m.Pairwise (·<=·)->l=m
 | [],m,h,_,_=>(List.nil_perm.mp h).symm
 | x :: l,m,h,hl,hm=>by
  cases m with
  | nil=>exact absurd h.length_eq (by simp)
  | cons y m =>
   obtain ⟨l1,l2⟩:=List.pairwise_cons.mp hl;obtain ⟨m1,m2⟩:=List.pairwise_cons.mp hm;have e:x=y:=by
    have a1:x∈y :: m:=h.mem_iff.mp zaq;have a2:y∈x :: l:=h.mem_iff.mpr zaq;rcases zay.mp a1 with e | a1
    ·exact e
    ·rcases zay.mp a2 with e | a2
     ·exact e.symm
     ·exact Int.le_antisymm (l1 y a2) (m1 x a1)
   subst e;rw [fS (List.perm_cons x |>.mp h) l2 m2]
def kK {us:List Value} {ns:List Int} (h:IntsAre us ns):Vals (ns.map V.int) us:=by
 induction us generalizing ns with
 | nil=>cases ns with
  | nil=>exact .nil
  | cons n r=>exact absurd h.length (by simp)
 | cons u us ih =>
  cases ns with
  | nil=>exact absurd h.length (by simp)
  | cons n r =>
   obtain ⟨t,ht⟩:=IntsAre.int_at h 0 u rfl;refine .cons ⟨t,ht⟩ (ih ?_);cases h
   assumption
def BZ (hK:X.K=K) (ha:PE X a (tF K p ds ds1 d f1)) (hb:PE X b (tF K p ds1 ds2 d2 f2)) (hs:b0 b) (hz:d≠0):PE X (.Subscript a b pos) (tF K p ds ds2 (dn d) (e2 ixA f1 f2)):=by
 subst hK;refine (kx ix_seq ha hb hs).imp fun σ H Q h=>?_;obtain ⟨Ox,en,R,t,en',e,hf,k⟩:=h;unfold e2 at hf;obtain ⟨⟨t1,en1⟩,h1,hf⟩:=zaa.mp hf;obtain ⟨⟨t2,en2⟩,h2,hf⟩:=zaa.mp hf;obtain ⟨t',h3,hf⟩:=zab.mp hf;cases hf;have go:tFA X.K (p && (p && true)) ds ds2 [.inl d,.inl d2] (af f1 (af f2 ai)) σ H (fun vs H2=>∃ x y,vs=[x,y]/\((∃ (a:Addr) (us:List V) (n:Int) (v:V),x=.ref a/\y=.int n/\(SqL X.K H2 a us\/SqT X.K H2 a us)/\atI us n=some v/\Q v H2)\/(∃ (z:Str) (n:Int) (c:Nat),x=.str z/\y=.int n/\z.length<=sizeLine/\atI z.cps.toList n=some c/\Q (.str (mk1 c)) H2))):=by
  refine ⟨Ox,en,R,[.inl t1,.inl t2],en2,e,?_,fun vs H1 R1 F P o=>?_⟩
  ·unfold af ai;rw [h1];show Option.map _ ((f2 en1).bind _)=_;rw [h2];rfl
  ·obtain ⟨x,r,d',dr,F1,F2,e1,e2',s1,s2,_,o1,y,r2,d2',dr2,G1,G2,e3,e4,s3,_,_,o2,o3⟩:=o;obtain ⟨_,o3⟩:=o3;cases e2';subst e1 e3 o3;cases e4;refine ⟨x,y,rfl,?_⟩;have P':Post X.K p ds2 Ox σ H en R en2 H1 R1 F:=by
    rw [Bool.and_true,Bool.and_self] at P;exact P
   cases t2 with
   | int n =>
    cases (show y=V.int n from o2);cases t1 with
    | list ts =>
     obtain ⟨a,vs,rfl,⟨z,_⟩ | ⟨_,g1,g2,G,hg,g3⟩⟩:=o1
     ·exact absurd z hz
     ·have h3':atI ts n=some t:=h3;unfold atI at h3';obtain ⟨j,hj,hj2⟩:=zaa.mp h3';obtain ⟨v,hv,ov⟩:=g3.get hj2;refine .inl ⟨a,vs,n,v,rfl,rfl,.inl (.inl (.inl g1)),?_,?_⟩
      ·unfold atI;rw [g3.len,hj];exact hv
      ·have sub:∀ b,G b->F b:=fun b hb=>s1 b (hg b hb).1;exact k v H1 R1 G (P'.less sub) (Ow.grow (fun b hb=>hb.imp id fun hb=>hb.imp (sub b) id) _ (fun _ z=>z) ov)
    | tuple ts =>
     obtain ⟨a,vs,rfl,⟨z,_⟩ | ⟨_,g1,g2,G,hg,g3⟩⟩:=o1
     ·exact absurd z hz
     ·have h3':atI ts n=some t:=h3;unfold atI at h3';obtain ⟨j,hj,hj2⟩:=zaa.mp h3';obtain ⟨v,hv,ov⟩:=g3.get hj2;refine .inl ⟨a,vs,n,v,rfl,rfl,.inr (.inl (.inl g1)),?_,?_⟩
      ·unfold atI;rw [g3.len,hj];exact hv
      ·have sub:∀ b,G b->F b:=fun b hb=>s1 b (hg b hb).1;exact k v H1 R1 G (P'.less sub) (Ow.grow (fun b hb=>hb.imp id fun hb=>hb.imp (sub b) id) _ (fun _ z=>z) ov)
    | str z =>
     dsimp only [ixA] at h3
     by_cases hl:z.length<=sizeLine
     ·rw [if_pos hl] at h3;obtain ⟨c,h5,h6⟩:=zab.mp h3;cases h6;exact .inr ⟨z,n,c,o1,rfl,hl,h5,k _ H1 R1 NoA (P'.less fun _ z=>z.elim) rfl⟩
     ·rw [if_neg hl] at h3; cases h3
    | _=>cases h3
   | _=>cases t1 <;> cases h3
 have go2:=jL (ds1:=ds1) (p1:=p) (p2:=p && true) go;refine nQ (fun x H1 q1=>?_) go2;have q2:=jL (ds1:=ds2) (p1:=p) (p2:=true) q1;refine nQ (fun y H2 q3=>?_) q2;obtain ⟨x',y',ee,q⟩:=pb q3;cases ee;rcases q with ⟨a,us,n,v,rfl,rfl,hs | hs,hv,q⟩ | ⟨z,n,c,rfl,rfl,hl,hv,q⟩
 ·exact .inl ⟨a,us,n,v,rfl,rfl,hs,hv,q⟩
 ·exact .inr (.inl ⟨a,us,n,v,rfl,rfl,hs,hv,q⟩)
 ·exact .inr (.inr ⟨z,n,c,rfl,rfl,hl,hv,q⟩)
end
end L2
namespace L2
open PySem PySem.Spec PyProof.Rows PySem.SeqAt PySem.MeetsSeq
section
variable {A:Around} {s:Shared}
end
section
variable {X:Cx} {pins:List (Addr × Obj)} {σ:St} {H:Hp} {s:Shared} {O:AS}
end
section
variable {X:Cx} {K:PySem.W.Frag}
end
def Eg:D->D->Option D
 | .tuple ts,.int k=>grd (1<=k/\k<=1000/\ts.length<=1000) (.tuple (List.replicate k.toNat ts).flatten)
 | _,_=>none
section
variable {X:Cx} {K:PySem.W.Frag}
def D3:D->D->Option D
 | .int k,.str z=>grd (z.length<=4000/\1<=k/\k<=4000) (.str (Txt.mul z k))
 | _,_=>none
end
section
variable {X:Cx} {K:PySem.W.Frag} {p p1 p2:Bool} {ds ds1 ds2:List Nat} {d d1 d2:Nat} {e:Expr} {f f1 f2:ME} {σ:St} {H:Hp} {Q Q':VK}
end
def DY:D->D->Option D
 | .tuple ts,b=>grd (aj b=true/\au ts=true/\aU ts<=60) (.int (ts.countP fun t=>peq t b:Nat))
 | _,_=>none
section
variable {X:Cx} {K:PySem.W.Frag} {p:Bool} {ds ds1 ds2:List Nat} {d d1 d2:Nat} {e:Expr} {f f1 f2:ME} {σ:St} {H:Hp} {Q Q':VK}
end
end L2
namespace L2
open PySem PySem.Spec PyProof.Rows HT
section
variable {prog:Program} {w:World} {A:Around} {E:Value->Shared->Prop} {s:Shared}
end
def D8:D->Option Int->Option Int->Option D
 | .tuple ts,lo,hi=>some (.tuple (dD ts lo hi))
 | _,_,_=>none
section
variable {X:Cx} {K:PySem.W.Frag}
end
end L2
namespace L2
open PySem PySem.Spec PyProof.Rows
section
variable {P:Program} {w:World} {A:Around} {E:Value->Shared->Prop} {s:Shared}
end
section
variable {X:Cx} {K:PySem.W.Frag} {p p1 p2:Bool} {ds ds1 ds2:List Nat} {d d1 d2:Nat} {e k:Expr} {f f1 f2:ME} {fa:MA} {sh:Sh} {σ:St} {H:Hp} {Q Q':VK} {pos pos2 px py:Pos}
end
end L2
namespace L2
open PySem PySem.Spec PyProof.Rows PySem.SeqAt PySem.MeetsSeq
section
variable {X:Cx} {K:PySem.W.Frag}
end
section
variable {X:Cx} {K:PySem.W.Frag} {p p1 p2:Bool} {ds ds1 ds2:List Nat} {d d1 d2:Nat} {e:Expr} {f f1 f2:ME} {σ:St} {H:Hp} {Q Q':VK} {i:Nat}
end
section
variable {X:Cx} {K:PySem.W.Frag} {p p1 p2 q:Bool} {J:Jd} {ds ds0 ds1 ds2 ds' dsi dps:List Nat} {d d' d1 d2 dr:Nat} {a b c e tg iter:Expr} {es:List Expr} {st:Stmt} {rest body bodyB:List Stmt} {f f1 f2 fk fe:ME} {c1 c2:MT} {fa:MA} {sh:Sh} {pos px:Pos} {i:Nat} {x:Str} {m m1 m2:MS} {g:MG} {gs:List D->En->Option En} {fi:MI} {lk:List Nat}
end
end L2
namespace L2
open PySem PySem.Spec PyProof.Rows
section
variable {prog:Program} {w:World} {A:Around} {E:Value->Shared->Prop} {s:Shared}
end
section
variable {X:Cx} {tg:Expr} {K:PySem.W.Frag}
end
section
variable {X:Cx} {K:PySem.W.Frag} {p:Bool} {ds ds1:List Nat} {d:Nat} {fa:MA} {sh:Sh} {O O1:AS} {H0 H:Hp} {ts us:List D} {vs ws:List V} {a b:Addr}
def DS (fa:MA):MI:=fun en=>(fa en).bind fun r=>match r.1 with
 | [.inl (.tuple ts),.inl (.tuple us)]=>some (pC ts us,r.2)
 | _=>none
end
section
variable {K:PySem.W.Frag} {p p1 p2 q:Bool} {J:Jd} {lk ds ds0 ds1 ds2 ds':List Nat} {d d' d1 d2:Nat} {f:ME} {i j:Nat} {g:MG} {gs:List D->En->Option En} {σ:St} {H:Hp} {Dn:Ends} {v:V} {vs:List V} {QS:St->Hp->Prop}
end
section
variable {X:Cx} {K:PySem.W.Frag} {J:Jd} {lk ds ds0 ds1 ds2 ds':List Nat} {e tg:Expr} {es:List Expr} {f:ME} {pos px:Pos} {i:Nat} {g:MG} {gs:List D->En->Option En}
end
section
variable {X:Cx} {K:PySem.W.Frag} {p:Bool} {ds:List Nat} {k v:Expr} {fk fv:ME} {pos:Pos} {σ:St} {H:Hp} {Q:VK} {O:AS}
end
structure QE (X:Cx) (e:Expr) (t:TE):Prop where
 h:PE X e t
structure QT (X:Cx) (e:Expr) (t:TT):Prop where
 h:PT X e t
structure QW (X:Cx) (e:Expr) (t:TT):Prop where
 h:PW X e t
structure QA (X:Cx) (e:List Expr) (t:TA):Prop where
 h:PA X e t
structure QS (X:Cx) (e:Stmt) (t:TS):Prop where
 h:PS X e t
structure QSs (X:Cx) (e:List Stmt) (t:TS):Prop where
 h:PSs X e t
structure QG (X:Cx) (e:Expr) (t:TG):Prop where
 h:PG X e t
structure QGs (X:Cx) (e:List Expr) (t:TGs):Prop where
 h:PGs X e t
structure QI (X:Cx) (tg e:Expr) (t:TI):Prop where
 h:PI X tg e t
structure QTs (X:Cx) (e:List Expr) (t:TT):Prop where
 h:PTs X e t
structure QO (X:Cx) (e:Option Expr) (t:TO):Prop where
 h:PO X e t
def qpt {X:Cx} {e:Expr} {t:TT} (h:QW X e t):QT X e t:=⟨h.h.pt⟩
section
variable {X:Cx} {K:PySem.W.Frag} {p p1 p2 q:Bool} {ds ds0 ds1 ds2 ds' dsi:List Nat} {d d' d1 d2:Nat} {a b c e:Expr} {es:List Expr} {f f1 f2:ME} {m c1 c2:MT} {fa:MA} {sh:Sh} {pos:Pos} {i:Nat} {x:Str}
def bw {x:Str} (hN:X.N[i]?=some x) (hv:Vis X.env.scope x) (h0:ds[i]?=some 0) (hd:(x == ("__debug__" : Str))=false) (hcd:(x == ("__classdict__" : Str))=false):QE X (.Name x pos) (tF K p ds ds 0 (ae i)):=⟨BQ hN hv h0 hd hcd⟩
def xZ {x:Str} (hN:X.N[i]?=some x) (hv:Vis X.env.scope x) (h0:ds[i]?=some d) (hds:ds.set i 0=ds') (hd:(x == ("__debug__" : Str))=false) (hcd:(x == ("__classdict__" : Str))=false):QE X (.Name x pos) (tF K false ds ds' d (eMv i)):=⟨C4 hN hv h0 hds hd hcd⟩
def ah {n:Int} {j}:QE X (.Constant (.int n) j pos) (tF K p ds ds 3 (eC (.int n))):=⟨B3⟩
def bZ {n:Bool} {j}:QE X (.Constant (.bool n) j pos) (tF K p ds ds 3 (eC (.bool n))):=⟨C9⟩
def c7 {j}:QE X (.Constant .none j pos) (tF K p ds ds 3 (eC .none)):=⟨BW⟩
def cZ (h:QE X e (tF K p ds ds' d f)) (hd:d'<=d):QE X e (tF K p ds ds' d' f):=⟨BS h.h hd⟩
def cz (h:QE X e (tF K p ds0 ds' d f)) (hd:leD ds0 ds=true):QE X e (tF K false ds ds' d f):=⟨C7 h.h hd⟩
def ao {op:Operator} {g:D->D->Option D} (ho:OpR X (binaryOp op) (rF2 K g d)) (ha:QE X a (tF K p ds ds1 d1 f1)) (hb:QE X b (tF K p ds1 ds2 d2 f2)):QE X (.BinOp a op b pos) (tF K p ds ds2 d (e2 g f1 f2)):=⟨C3 ho ha.h hb.h⟩
def c9 {op:CmpOp} {g:D->D->Option D} (ho:OpR X (compareOp op) (rF2 K g d)) (ha:QE X a (tF K p ds ds1 d1 f1)) (hb:QE X b (tF K p ds1 ds2 d2 f2)) (hm:behindInMarks op b=false):QE X (.Compare a [op] [b] pos) (tF K p ds ds2 d (e2 g f1 f2)):=⟨B5 ho ha.h hb.h hm⟩
def a6 {op:CmpOp} {g:D->D->Option D} (ho:OpR X (compareOp op) (rF2 K g d)) (ha:QE X a (tF K p ds ds1 d1 f1)) (hb:QE X b (tF K p ds1 ds2 d2 f2)) (hm:behindInMarks op b=false):QT X (.Compare a [op] [b] pos) (tFT K p ds ds2 (tV (e2 g f1 f2))):=⟨xz ho ha.h hb.h hm⟩
def dq (h:QE X e (tF K p ds ds' d f)) (he:∀ whole,isTrue e X.env whole=(do let v <- whole; standAt e.pos; holding [v] (truthy v))):QT X e (tFT K p ds ds' (tV f)):=⟨xw h.h he⟩
def eX (ha:QT X a (tFT K p ds ds1 c1)):QW X (.BoolOp .And [a] pos) (tFT K p ds ds1 c1):=⟨xt ha.h⟩
def lp (ha:QT X a (tFT K p ds ds1 c1)):QW X (.BoolOp .Or [a] pos) (tFT K p ds ds1 c1):=⟨By ha.h⟩
def gb {rest:List Expr} (ha:QT X a (tFT K p ds ds1 c1)) (hb:QW X (.BoolOp .And (b :: rest) pos) (tFT K p ds1 ds1 c2)):QW X (.BoolOp .And (a :: b :: rest) pos) (tFT K p ds ds1 (cI c1 c2)):=⟨Bz ha.h hb.h⟩
def mF {rest:List Expr} (ha:QT X a (tFT K p ds ds1 c1)) (hb:QW X (.BoolOp .Or (b :: rest) pos) (tFT K p ds1 ds1 c2)):QW X (.BoolOp .Or (a :: b :: rest) pos) (tFT K p ds ds1 (bOr c1 c2)):=⟨CT ha.h hb.h⟩
def gS (ha:QT X a (tFT K p ds ds1 c1)):QT X (.UnaryOp .Not a pos) (tFT K p ds ds1 (hW c1)):=⟨xx ha.h⟩
def du (h:QT X e (tFT K true ds0 ds0 c1)) (hd:leD ds0 ds=true):QT X e (tFT K p ds ds c1):=⟨xA h.h hd⟩
def eF {op} (h:QE X a (tF K p ds ds1 d f)):QE X (.BoolOp op [a] pos) (tF K p ds ds1 d f):=⟨BU h.h⟩
def eI {rest:List Expr} (ha:QE X a (tF K p ds ds1 d1 f1)) (hb:QE X (.BoolOp .And (b :: rest) pos) (tF K p ds1 ds1 d f2)):QE X (.BoolOp .And (a :: b :: rest) pos) (tF K p ds ds1 d (dC f1 f2)):=⟨B7 ha.h hb.h⟩
def xY {rest:List Expr} (ha:QE X a (tF K p ds ds1 d1 f1)) (hb:QE X (.BoolOp .Or (b :: rest) pos) (tF K p ds1 ds1 d f2)):QE X (.BoolOp .Or (a :: b :: rest) pos) (tF K p ds ds1 d (eOr f1 f2)):=⟨C2 ha.h hb.h⟩
def qD (ha:QE X a (tF K p ds ds1 d1 f)):QE X (.UnaryOp .Not a pos) (tF K p ds ds1 3 (jO f)):=⟨BV ha.h⟩
def ac  : QA X [] (tFA K p ds ds [] ai):=⟨ye⟩
def aa (ha:QE X e (tF K p ds ds1 d f)) (hr:QA X es (tFA K p ds1 ds2 sh fa)) (hs:aG e=true):QA X (e :: es) (tFA K p ds ds2 (.inl d :: sh) (af f fa)):=⟨qJ ha.h hr.h hs⟩
def jp {x:Str} (hN:X.N[i]?=some x) (hv:Vis X.env.scope x) (hr:QA X es (tFA K p ds ds2 sh fa)) (hd:(x == ("__debug__" : Str))=false) (hcd:(x == ("__classdict__" : Str))=false):QA X (.Name x pos :: es) (tFA K p ds ds2 (.inr i :: sh) (aS i fa)):=⟨qI hN hv hr.h hd hcd⟩
def aJ {c:Nat} (h:QA X es (tFA K p ds ds1 sh fa)) (hs:bm c sh=true) (hd:dn d=c) (hz:d≠0):QE X (.List es pos) (tF K p ds ds1 d (aY fa)):=⟨BX h.h hs hd hz⟩
def cX {c:Nat} {x1} (h:QA X es (tFA K p ds ds1 sh fa)) (hs:bm c sh=true) (hd:dn d=c):QE X (.Tuple es x1 pos) (tF K p ds ds1 d (fg fa)):=⟨BR h.h hs hd⟩
def jo {id:String} {x:Str} {px:Pos} {g:List D->Option D} (hc:CallR X (.builtin id) (rFn K g d)) (hg:Gl X x) (hm:X.mg x=none) (hv:bootBuiltins x=some (.builtin id)) (ha:QA X (e :: es) (tFA K p ds ds1 sh fa)) (hsh:bm 0 sh=true) (hn:x≠"__name__") (hdb:(x == ("__debug__" : Str))=false) (he:aG e=true) (hpl:es.all aG=true):QE X (.Call (.Name x px) (e :: es) [] pos) (tF K p ds ds1 d (eN g fa)):=⟨qH hc hg hm hv ha.h hsh hn hdb he hpl⟩
def l6 {T:String} {x:Str} {px:Pos} {g:List D->Option D} (hc:CallR X (.type T) (rFn K g d)) (hg:Gl X x) (hm:X.mg x=none) (hv:bootBuiltins x=some (.type T)) (ha:QA X (e :: es) (tFA K p ds ds1 sh fa)) (hsh:bm 0 sh=true) (hn:x≠"__name__") (hdb:(x == ("__debug__" : Str))=false) (he:aG e=true) (hpl:es.all aG=true):QE X (.Call (.Name x px) (e :: es) [] pos) (tF K p ds ds1 d (eN g fa)):=⟨oZ hc hg hm hv ha.h hsh hn hdb he hpl⟩
def ya {k:Nat} {x:Str} {ps:List Str} {px:Pos} {dps:List Nat} {dr:Nat} {F:List D->Option (D × En)} (G:Kn X.prog X.w X.K X.mg X.base k x ps (spF K dps dr F)) (hr:Room k X.A) (hg:Gl X x) (ha:QA X (e :: es) (tFA K p ds ds1 sh fa)) (hns:eA sh=true) (hcd:ci ds1 sh dps=true) (hdb:(x == ("__debug__" : Str))=false) (he:aG e=true) (hpl:es.all aG=true):QE X (.Call (.Name x px) (e :: es) [] pos) (tF K p ds ds1 dr (av F fa)):=⟨C8 G hr hg ha.h hns hcd hdb he hpl⟩
def qG {k:Nat} {x:Str} {ps:List Str} {px:Pos} {dps:List Nat} {dr:Nat} {F:List D->Option (D × En)} (G:Kn X.prog X.w X.K X.mg X.base k x ps (spF K dps dr F)) (hr:Room k X.A) (hg:Gl X x) (ha:QA X (e :: es) (tFA K false ds ds1 sh fa)) (hcd:ci ds1 sh dps=true) (hdb:(x == ("__debug__" : Str))=false) (he:aG e=true) (hpl:es.all aG=true):QE X (.Call (.Name x px) (e :: es) [] pos) (tF K false ds ds1 dr (av F fa)):=⟨B4 G hr hg ha.h hcd hdb he hpl⟩
def dX {g:D->D->Option D} (ho:IxR X (rF2 K g d)) (ha:QE X a (tF K p ds ds1 d1 f1)) (hb:QE X b (tF K p ds1 ds2 d2 f2)) (hs:b0 b):QE X (.Subscript a b pos) (tF K p ds ds2 d (e2 g f1 f2)):=⟨C6 ho ha.h hb.h hs⟩
def gg {x:Str} {px:Pos} (hK:X.K=K) (hN:X.N[i]?=some x) (hv:Vis X.env.scope x) (h1:ds1[i]?=some 1) (hb:QE X b (tF K p ds ds1 d1 f)) (hs:b0 b) (hd:(x == ("__debug__" : Str))=false) (hcd:(x == ("__classdict__" : Str))=false):QE X (.Subscript (.Name x px) b pos) (tF K p ds ds1 0 (gj i f)):=⟨B0 hK hN hv h1 hb.h hs hd hcd⟩
def eG {c:Nat} {x:Str} {px apos cpos:Pos} (hK:X.K=K) (hN:X.N[i]?=some x) (hv:Vis X.env.scope x) (h1:ds1[i]?=some d) (he:QE X e (tF K false ds ds1 c f)) (hz:d≠0) (hc:dn d=c) (hd:(x == ("__debug__" : Str))=false) (hcd:(x == ("__classdict__" : Str))=false) (hbase:attributeBase (.Name x px) "append" X.env (eval (.Name x px) X.env)=eval (.Name x px) X.env) (hfew:((backTo cpos (starEach [e] X.env)).all (fun x=>!x.1) && (backToKw cpos (keywordEach [] X.env)).all (fun x=>x.1.isSome) && decide (([e]:List Expr).length+([]:List Keyword).length+(if ([]:List Keyword).isEmpty then 0 else 1) < 30))=true) (hline:(apos.endLine == cpos.line)=true) (hs:starEach [e] X.env=[(false,eval e X.env)]) (hplain:(backTo cpos (starEach [] X.env)).any (·.1)=false):QE X (.Call (.Attribute (.Name x px) "append" apos) [e] [] cpos) (tF K false ds ds1 3 (dB i f)):=⟨B6 hK hN hv h1 he.h hz hc hd hcd hbase hfew hline hs hplain⟩
def qC {c:Nat} {x:Str} {px apos cpos:Pos} (hK:X.K=K) (hN:X.N[i]?=some x) (hv:Vis X.env.scope x) (h1:ds[i]?=some d) (hz:d≠0) (hc:dn d=c) (hd:(x == ("__debug__" : Str))=false) (hcd:(x == ("__classdict__" : Str))=false) (hbase:attributeBase (.Name x px) "pop" X.env (eval (.Name x px) X.env)=eval (.Name x px) X.env) (hline:(apos.endLine == cpos.line)=true):QE X (.Call (.Attribute (.Name x px) "pop" apos) [] [] cpos) (tF K false ds ds c (gZ i)):=⟨BT hK hN hv h1 hz hc hd hcd hbase hline⟩
def bR  : QTs X [] (tFT K p ds ds cY):=⟨xv⟩
def eY (hc:QT X c (tFT K p ds ds1 c1)):QTs X [c] (tFT K p ds ds1 c1):=⟨xu hc.h⟩
def c8 {elt tg iter:Expr} {ifs:List Expr} {scope:Scope} {ns:List Str} {js:List (Option Nat)} {fi:MI} {g:MG} {lk:List Nat} {cd:Nat} (B:BlkOkC X scope ns js) (hc:X.calm=true) (hi:QI X tg iter (tFI K p ds ds1 fi)) (hg:∀ C cl s₀ H₀ fp,QG (aH X scope ns C cl s₀ H₀ fp) tg (tFG K lk dsi dsi g)) (ht:∀ C cl s₀ H₀ fp,QTs (aH X scope ns C cl s₀ H₀ fp) ifs (tFT K true dsi dsi c1)) (he:∀ C cl s₀ H₀ fp,QE (aH X scope ns C cl s₀ H₀ fp) elt (tF K true dsi dsi cd f)) (hcap:fq ds1 js dsi=true) (hd:dn d=cd) (hz:d≠0) (hlk:lk=fj js 0) (hs:∀ x,foldedSetIterable iter X.env x=pure x):QE X (.ListComp elt [⟨tg,iter,ifs,0⟩] scope pos) (tF K p ds ds1 d (eLC true fi g c1 f js)):=⟨C5 B hc hi.h (fun C cl s₀ H₀ fp=>(hg C cl s₀ H₀ fp).h) (fun C cl s₀ H₀ fp=>(ht C cl s₀ H₀ fp).h) (fun C cl s₀ H₀ fp=>(he C cl s₀ H₀ fp).h) hcap hd hz hlk hs⟩
end
section
variable {X:Cx} {K:PySem.W.Frag} {p p1 p2 q:Bool} {J:Jd} {ds ds0 ds1 ds2 ds' dsi dps:List Nat} {d d' d1 d2 dr:Nat} {a b c e tg iter:Expr} {es:List Expr} {st:Stmt} {rest body bodyB:List Stmt} {f f1 f2 fk fe:ME} {c1 c2:MT} {fa:MA} {sh:Sh} {pos px:Pos} {i:Nat} {x:Str} {m m1 m2:MS} {g:MG} {gs:List D->En->Option En} {fi:MI} {lk:List Nat}
def aP  : QSs X [] (tFS K J ds ds be):=⟨xD⟩
def ag (h1:QS X st (tFS K J ds ds1 m1)) (h2:QSs X rest (tFS K J ds1 ds2 m2)):QSs X (st :: rest) (tFS K J ds ds2 (ak m1 m2)):=⟨qo h1.h h2.h⟩
def aD (h1:QS X st (tFS K J ds ds1 m1)):QSs X [st] (tFS K J ds ds1 m1):=⟨xC h1.h⟩
def oK (h:QSs X rest (tFS K J ds ds2 m)) (hd:leD ds1 ds2=true):QSs X rest (tFS K J ds ds1 m):=⟨xB h.h hd⟩
def cy (he:QE X e (tF K false ds ds1 d f)) (hs:swapsWith e none pos.line X.env=pure false):QS X (.Expr e pos) (tFS K J ds ds1 (dz f)):=⟨xL he.h hs⟩
def oQ (he:QE X e (tF K false ds ds1 J.dr f)) (hd:leD J.dsr ds1=true):QS X (.Return (some e) pos) (tFS K J ds ds' (aN f)):=⟨xJ he.h hd⟩
def aX (hc:QT X c (tFT K false ds ds1 c1)) (ha:QSs X body (tFS K J ds1 ds2 m1)) (hb:QSs X bodyB (tFS K J ds1 ds2 m2)):QS X (.If c body bodyB pos) (tFS K J ds ds2 (sIf c1 m1 m2)):=⟨BI hc.h ha.h hb.h⟩
def e5 {x:Str} {pos':Pos} (hN:X.N.Nodup) (hi:X.N[i]?=some x) (hx:Loc X.env.scope x) (he:QE X e (tF K false ds ds1 d f)) (hds:ds1.set i d=ds') (hl:i < ds1.length) (hk:i ∉ J.lk) (hs:swapsWith e (some (.Name x pos')) pos.line X.env=pure false) (hf:X.fn x=true\/X.env.scope.names.lookup x=some .local):QS X (.Assign [.Name x pos'] e pos) (tFS K J ds ds' (ay i f)):=⟨xI hN hi hx he.h hds hl hk hs hf⟩
def df {x:Str} {spos pos':Pos} {elt:Expr} {ifs:List Expr} {scope:Scope} {ns:List Str} {js:List (Option Nat)} {cd:Nat} (hN:X.N.Nodup) (hi':X.N[i]?=some x) (hx:X.env.scope.names.lookup x=some .local) (B:BlkOkC X scope ns js) (hc:X.calm=true) (hi:QI X tg iter (tFI K false ds ds1 fi)) (hg:∀ C cl s₀ H₀ fp,QG (aH X scope ns C cl s₀ H₀ fp) tg (tFG K lk dsi dsi g)) (ht:∀ C cl s₀ H₀ fp,QTs (aH X scope ns C cl s₀ H₀ fp) ifs (tFT K q dsi dsi c1)) (he:∀ C cl s₀ H₀ fp,QE (aH X scope ns C cl s₀ H₀ fp) elt (tF K q dsi dsi cd f)) (hds:ds1.set i d=ds') (hcap:fq ds1 js dsi=true) (hd:dn d=cd) (hz:d≠0) (hlk:lk=fj js 0) (hl:i < ds1.length) (hk:i ∉ J.lk) (hsw:swapsWith (.ListComp elt [⟨tg,iter,ifs,0⟩] scope pos) (some (.Name x pos')) spos.line X.env=pure true) (hs:∀ x,foldedSetIterable iter X.env x=pure x):QS X (.Assign [.Name x pos'] (.ListComp elt [⟨tg,iter,ifs,0⟩] scope pos) spos) (tFS K J ds ds' (ay i (eLC q fi g c1 f js))):=⟨oP hN hi' hx B hc hi.h (fun C cl s₀ H₀ fp=>(hg C cl s₀ H₀ fp).h) (fun C cl s₀ H₀ fp=>(ht C cl s₀ H₀ fp).h) (fun C cl s₀ H₀ fp=>(he C cl s₀ H₀ fp).h) hds hcap hd hz hlk hl hk hsw hs⟩
def dP {c:Nat} {x:Str} {spos:Pos} {k:Expr} (hN:X.N[i]?=some x) (hv:Vis X.env.scope x) (he:QE X e (tF K false ds ds1 c fe)) (hk:QE X k (tF K false ds1 ds2 d2 fk)) (h1:ds2[i]?=some d) (hz:d≠0) (hc:dn d=c) (hdb:(x == ("__debug__" : Str))=false) (hcd:(x == ("__classdict__" : Str))=false) (ha:∀ v,assign (.Subscript (.Name x px) k spos) X.env v=(do
   let ov <- holding [v] (eval (.Name x px) X.env);let iv <- holding [v,ov] (eval k X.env)
   standAt spos
   holding [v,ov,iv] (setItem ov iv v)
   release [v,ov,iv] [])) (hs:swapsWithSole [.Subscript (.Name x px) k spos] e pos.line X.env=pure false) (hw:swappedStores [.Subscript (.Name x px) k spos] e X.env=pure none) (h2:(assignEach [.Subscript (.Name x px) k spos] X.env).map (·.2)=[assign (.Subscript (.Name x px) k spos) X.env]):QS X (.Assign [.Subscript (.Name x px) k spos] e pos) (tFS K J ds ds2 (dM i fk fe)):=⟨qr hN hv he.h hk.h h1 hz hc hdb hcd ha hs hw h2⟩
def aB {x:Str} (hN:X.N.Nodup) (hi:X.N[i]?=some x) (hx:Loc X.env.scope x) (hds:ds.set i 0=ds') (hl:i < ds.length) (hk:i ∉ lk) (hf:X.fn x=true\/X.env.scope.names.lookup x=some .local):QG X (.Name x pos) (tFG K lk ds ds' (gN i)):=⟨qA hN hi hx hds hl hk hf⟩
def cH  : QGs X [] (dy K lk ds ds gs0):=⟨qy⟩
def aW (h1:QG X e (tFG K lk ds ds1 g)) (h2:QGs X es (dy K lk ds1 ds2 gs)) (hs:(assignEach (e :: es) X.env).map (·.2)=assign e X.env :: (assignEach es X.env).map (·.2)):QGs X (e :: es) (dy K lk ds ds2 (gsC g gs)):=⟨oX h1.h h2.h hs⟩
def dv {k n:Nat} (hK:X.K=K) (hc:X.calm=true) (h:QGs X es (dy K lk ds ds1 gs)) (hl:∀ ts en,(∃ en',gs ts en=some en')->ts.length=n) (hn:(assignEach es X.env).length=n) (hst:(assignEach es X.env).findIdx? (·.1)=none):QG X (.Tuple es k pos) (tFG K lk ds ds1 (gT gs)):=⟨xW hK hc h.h hl hn hst⟩
def bt (hc:X.calm=true) (hi:QI X tg iter (tFI K false ds ds1 fi)) (hg:QG X tg (tFG K J.lk ds1 ds2 g)) (hb:QSs X body (tFS K { J with dsl:=ds1 } ds2 ds1 m)) (hp:PassesOwn (model X.prog X.w) X.A X.env X.xe) (hs:∀ x,foldedSetIterable iter X.env x=pure x):QS X (.For tg iter body [] pos) (tFS K J ds ds1 (cF fi g m)):=⟨xK hc hi.h hg.h hb.h hp hs⟩
def iF (hc:QT X c (tFT K false ds ds1 c1)) (hb:QSs X body (tFS K { J with dsl:=ds } ds1 ds m)) (hp:PassesOwn (model X.prog X.w) X.A X.env X.xe):QS X (.While c body [] pos) (tFS K J ds ds1 (bB c1 m)):=⟨oO hc.h hb.h hp⟩
end
section
variable {X:Cx} {K:PySem.W.Frag} {p:Bool} {ds ds1:List Nat} {d:Nat} {e tg l:Expr} {f:ME} {fa:MA} {sh:Sh}
def bv (hK:X.K=K) (hl:QE X l (tF K p ds ds1 d f)):QI X tg l (tFI K p ds ds1 (cG f)):=⟨BO hK hl.h⟩
def bT {a:Expr} {px pos:Pos} (hg:Gl X "range") (hm:X.mg "range"=none) (ha:QA X [a] (tFA K p ds ds1 sh fa)) (hs:aG a=true):QI X tg (.Call (.Name "range" px) [a] [] pos) (tFI K p ds ds1 (bP fa)):=⟨xT hg hm ha.h hs⟩
def gX {px pos:Pos} {elts:List Expr} {k:Nat} {tp:Pos} (hK:X.K=K) (hg:Gl X "enumerate") (hm:X.mg "enumerate"=none) (ha:QA X [l] (tFA K p ds ds1 sh fa)) (hs:starEach [l] X.env=[(false,eval l X.env)]):QI X (.Tuple elts k tp) (.Call (.Name "enumerate" px) [l] [] pos) (tFI K p ds ds1 (eE fa)):=⟨xU hK hg hm ha.h hs⟩
end
section
variable {X:Cx} {K:PySem.W.Frag} {p:Bool} {ds ds1:List Nat} {d1:Nat} {e:Expr} {f:ME}
def iR {T:Str} {n:String} {px pt pos:Pos} (hK:X.K=K) (hg:Gl X "isinstance") (hm:X.mg "isinstance"=none) (hgT:Gl X T) (hmT:X.mg T=none) (hbT:bootBuiltins T=some (.type n)) (hT:n∈["int", "bool", "str", "list", "tuple", "dict"]) (he:QE X e (tF K p ds ds1 d1 f)) (hnT:T≠"__name__") (hdT:(T == ("__debug__" : Str))=false) (hs1:starEach [e,.Name T pt] X.env=(false,eval e X.env) :: starEach [.Name T pt] X.env) (hs2:starEach [.Name T pt] X.env=(false,eval (.Name T pt) X.env) :: starEach [] X.env) (hpl:(backTo pos (starEach [.Name T pt] X.env)).any (·.1)=false):QE X (.Call (.Name "isinstance" px) [e,.Name T pt] [] pos) (tF K p ds ds1 3 (e1 (az n) f)):=⟨B1 hK hg hm hgT hmT hbT hT he.h hnT hdT hs1 hs2 hpl⟩
end
section
variable {X:Cx} {K:PySem.W.Frag} {p:Bool} {J:Jd} {ds ds0 ds1 ds2 ds3 ds':List Nat} {d d' d1 d2 d3:Nat} {a b c e:Expr} {st:Stmt} {f f1 f2 f3:ME} {m:MS} {pos p2:Pos}
def eZ (h:QS X st (tFS K J ds ds2 m)) (hd:leD ds1 ds2=true):QS X st (tFS K J ds ds1 m):=⟨xH h.h hd⟩
def oT  : QO X none (tFO K p ds ds ky):=⟨xP⟩
def oS (h:QE X e (tF K p ds ds1 d f)):QO X (some e) (tFO K p ds ds1 (ja f)):=⟨xO h.h⟩
variable {lo hi:MO}
def ny {g:D->Option Int->Option Int->Option D} {elo ehi:Option Expr} (hr:SlR X (rFs K g d)) (he:QE X e (tF K p ds ds1 d1 f)) (hl:QO X elo (tFO K p ds1 ds2 lo)) (hu:QO X ehi (tFO K p ds2 ds3 hi)):QE X (.Subscript e (.Slice elo ehi none p2) pos) (tF K p ds ds3 d (eSl g f lo hi)):=⟨qB hr he.h hl.h hu.h⟩
end
section
variable {X:Cx} {K:PySem.W.Frag} {p:Bool} {J:Jd} {ds ds0 ds1 ds2 ds':List Nat} {d d' d1 d2:Nat} {a b c e o k:Expr} {f f1 f2 fk fe:ME} {pos px spos:Pos} {i:Nat} {σ:St} {H:Hp} {Q:VK} {Dn:Ends}
def oY  : QE X (.Dict [] [] pos) (tF K p ds ds 3 kE):=⟨yb⟩
def kb (hu:X.A.units+1 < cLine) (ha:QE X a (tF K p ds ds1 d1 f1)) (hb:QE X b (tF K p ds1 ds2 d2 f2)) (h1:behindInMarks .NotIn b=false):QT X (.Compare a [.NotIn] [b] pos) (tFT K p ds ds2 (tV (e2 fL f1 f2))):=⟨xy hu ha.h hb.h h1⟩
def gf {x:Str} (hu:X.A.units+1 < cLine) (hN:X.N[i]?=some x) (hv:Vis X.env.scope x) (he:QE X e (tF K false ds ds1 0 fe)) (hk:QE X k (tF K false ds1 ds2 d2 fk)) (h1:ds2[i]?=some 1) (hdb:(x == ("__debug__" : Str))=false) (hcd:(x == ("__classdict__" : Str))=false) (hs:swapsWith e (some (.Subscript (.Name x px) k spos)) pos.line X.env=pure false):QS X (.Assign [.Subscript (.Name x px) k spos] e pos) (tFS K J ds ds2 (bY i fk fe)):=⟨qt hu hN hv he.h hk.h h1 hdb hcd hs⟩
end
section
variable {X:Cx} {K:PySem.W.Frag} {p:Bool} {J:Jd} {ds ds0 ds1 ds2 ds':List Nat} {d d' d1 d2:Nat} {a b c e o k:Expr} {es:List Expr} {f f1 f2 fk fe:ME} {fa:MA} {sh:Sh} {pos px spos:Pos} {i j:Nat} {σ:St} {H:Hp} {Q:VK} {Dn:Ends}
end
section
variable {X:Cx} {K:PySem.W.Frag} {p:Bool} {ds ds1:List Nat} {O:AS} {H:Hp} {σ:St} {d:Nat} {f:ME} {i:Nat} {e:Expr} {Q:VK}
end
section
variable {X:Cx} {K:PySem.W.Frag} {p:Bool} {ds ds1:List Nat} {d:Nat} {fa:MA} {sh:Sh} {O O1:AS} {H0 H:Hp} {ts us:List D} {vs ws:List V} {a b:Addr}
end
section
variable {X:Cx} {K:PySem.W.Frag} {p:Bool} {ds ds1:List Nat} {d1:Nat} {e:Expr} {f:ME}
end
section
variable {X:Cx} {K:PySem.W.Frag} {p p1 p2:Bool} {ds ds1 ds2:List Nat} {d d1:Nat} {e:Expr} {f:ME} {fa:MA} {sh:Sh} {σ:St} {H:Hp} {Q:VK}
end
section
variable {X:Cx} {K:PySem.W.Frag} {p p1 p2:Bool} {J:Jd} {ds ds1 ds2:List Nat} {H:Hp} {σ:St} {d d1 d2 i m:Nat} {f fk fe:ME} {mp:MP} {e b o:Expr} {Q:VK}
def oR {x:Str} {px:Pos} (hN:X.N[i]?=some x) (hv:Vis X.env.scope x) (hd:(x == ("__debug__" : Str))=false) (hcd:(x == ("__classdict__" : Str))=false):QE X (.Name x px) (tP K true ds ds i 0 (iP i)):=⟨xM hN hv hd hcd⟩
def qu {pos:Pos} (hK:X.K=K) (hd:ds2[i]?=some d) (ho:QE X o (tP K p1 ds ds1 i m mp)) (hb:QE X b (tF K p2 ds1 ds2 d1 f)) (hz:dns m d≠0) (hpu:p2=true\/m=0) (hs:b0 b):QE X (.Subscript o b pos) (tP K (p1 && p2) ds ds2 i (m+1) (pIx i mp f)):=⟨BJ hK hd ho.h hb.h hz hpu hs⟩
def o7 {apos cpos:Pos} {c:Nat} (hK:X.K=K) (hd1:ds1[i]?=some d) (hd:ds2[i]?=some d) (ho:QE X o (tP K p1 ds ds1 i m mp)) (he:QE X e (tF K true ds1 ds2 c f)) (hz:dns m d≠0) (hc:dn (dns m d)=c) (hbase:attributeBase o "append" X.env (eval o X.env)=eval o X.env) (hfew:((backTo cpos (starEach [e] X.env)).all (fun x=>!x.1) && (backToKw cpos (keywordEach [] X.env)).all (fun x=>x.1.isSome) && decide (([e]:List Expr).length+([]:List Keyword).length+(if ([]:List Keyword).isEmpty then 0 else 1) < 30))=true) (hline:(apos.endLine == cpos.line)=true) (hs:starEach [e] X.env=[(false,eval e X.env)]) (hplain:(backTo cpos (starEach [] X.env)).any (·.1)=false):QE X (.Call (.Attribute o "append" apos) [e] [] cpos) (tF K false ds ds2 3 (gm i mp f)):=⟨yc hK hd1 hd ho.h he.h hz hc hbase hfew hline hs hplain⟩
end
section
variable {X:Cx} {K:PySem.W.Frag} {p p1 p2:Bool} {ds ds1 ds2:List Nat} {d d1 d2:Nat} {e k:Expr} {f f1 f2:ME} {fa:MA} {sh:Sh} {σ:St} {H:Hp} {Q Q':VK} {pos pos2 px py:Pos}
end
section
variable {X:Cx} {K:PySem.W.Frag} {p p1 p2:Bool} {ds ds1 ds2:List Nat} {d d1 d2:Nat} {a b:Expr} {f f1 f2:ME} {σ:St} {H:Hp} {Q Q':VK} {pos:Pos} {ta tb:TE} {rest:List Expr}
end
section
variable {X:Cx} {K:PySem.W.Frag} {p p1 p2:Bool} {ds ds1 ds2:List Nat} {d d1 d2:Nat} {a b:Expr} {f f1 f2:ME} {σ:St} {H:Hp} {Q Q':VK} {pos:Pos}
def qF (hK:X.K=K) (ha:QE X a (tF K p ds ds1 d f1)) (hb:QE X b (tF K p ds1 ds2 d2 f2)) (hs:b0 b) (hz:d≠0):QE X (.Subscript a b pos) (tF K p ds ds2 (dn d) (e2 ixA f1 f2)):=⟨BZ hK ha.h hb.h hs hz⟩
end
section
variable {X:Cx} {K:PySem.W.Frag} {p p1 p2:Bool} {ds ds1 ds2:List Nat} {d d1 d2:Nat} {e:Expr} {f f1 f2:ME} {σ:St} {H:Hp} {Q Q':VK}
end
section
variable {X:Cx} {K:PySem.W.Frag} {p:Bool} {ds ds1 ds2:List Nat} {d d1 d2:Nat} {e:Expr} {f f1 f2:ME} {σ:St} {H:Hp} {Q Q':VK}
end
section
variable {X:Cx} {K:PySem.W.Frag} {p p1 p2:Bool} {ds ds1 ds2:List Nat} {d d1 d2:Nat} {e k:Expr} {f f1 f2:ME} {fa:MA} {sh:Sh} {σ:St} {H:Hp} {Q Q':VK} {pos pos2 px py:Pos}
end
section
variable {X:Cx} {K:PySem.W.Frag} {p p1 p2:Bool} {ds ds1 ds2:List Nat} {d d1 d2:Nat} {e:Expr} {f f1 f2:ME} {σ:St} {H:Hp} {Q Q':VK} {i:Nat}
end
section
variable {X:Cx} {K:PySem.W.Frag} {p p1 p2 q:Bool} {J:Jd} {ds ds0 ds1 ds2 ds' dsi dps:List Nat} {d d' d1 d2 dr:Nat} {a b c e tg iter:Expr} {es:List Expr} {st:Stmt} {rest body bodyB:List Stmt} {f f1 f2 fk fe:ME} {c1 c2:MT} {fa:MA} {sh:Sh} {pos px:Pos} {i:Nat} {x:Str} {m m1 m2:MS} {g:MG} {gs:List D->En->Option En} {fi:MI} {lk:List Nat}
end
section
variable {X:Cx} {K:PySem.W.Frag} {p:Bool} {ds ds1:List Nat} {d:Nat} {fa:MA} {sh:Sh} {O O1:AS} {H0 H:Hp} {ts us:List D} {vs ws:List V} {a b:Addr}
end
section
variable {X:Cx} {K:PySem.W.Frag} {J:Jd} {lk ds ds0 ds1 ds2 ds':List Nat} {e tg:Expr} {es:List Expr} {f:ME} {pos px:Pos} {i:Nat} {g:MG} {gs:List D->En->Option En}
end
section
variable {X:Cx} {K:PySem.W.Frag} {p:Bool} {ds:List Nat} {k v:Expr} {fk fv:ME} {pos:Pos} {σ:St} {H:Hp} {Q:VK} {O:AS}
end
def Fun.okQ {P:Program} {w:World} {K:PySem.W.Frag} {mg:Str->Option Value} {base:Heap} {x qual:Str} {st:Stmt} {f:Addr} {fd:FuncData} {N ps:List Str} {k n dr:Nat} {dps ds0:List Nat} {J:Jd} {b:MS}
  (F:Fun K x qual st f fd) (S:FnScope N ps (am st)) (hl:dps.length=ps.length) (hn:N.length - dps.length=n) (hJ:J=⟨k6 dps,dps++List.replicate n 0,dr,[]⟩) (hd:ds0=dps++List.replicate n 0)
  (hb:∀ (cdv:Value) (A:Around) (outer:List Env) (s:Shared) (H:Hp) (E:XK),Room k (A.deeper (envOfC qual (am st) s.heap.objs.size f cdv)) ->
   QSs (iS CX0 P w K mg base N qual (am st) f cdv A outer s H E).nox (bH st) (tFS K J ds0 ds0 b)):FnOk P w K mg base CX0 (k+1) f fd ps (spF K dps dr (fnF n dps b)):=by
 subst hJ hd;exact F.ok S (fun vs H Q E h=>wP hl h) fun cdv A outer s H vs Q E hr h=>⟨_,(hb cdv A outer s H E hr).h,xR hn h⟩
def Bi (F:List D->Option (D × En)):Prop:=∀ ns:List Int,ns.length<=63->∃ outs,F [.list (ns.map .int)]=some (.bool true,outs)
def i4 (K:PySem.W.Frag):Sp:=fun vs H Q _=>∃ (a:Addr) (ns:List Int),vs=[.ref a]/\SqL K H a (ns.map V.int)/\(∀ b,H b=none\/∃ o xs,H b=some (.frz o (.lst xs)))/\ns.length<=63/\∀ H':Hp,Q (.bl true) H'
def iC {K:PySem.W.Frag} {O:AS} {H:Hp}:∀ ns:List Int,Ows K O H (ns.map .int) 0 (ns.map V.int) NoA
 | []=>rfl
 | n :: r=>⟨.int n,r.map V.int,NoA,NoA,rfl,fun _ z=>z,fun _ z=>z,fun _ z=>z.elim,rfl,iC r⟩
def Bh {K:PySem.W.Frag} {dr:Nat} {F:List D->Option (D × En)} (h:Bi F) {vs:List V} {H:Hp} {Q:VK} {E:XK} (q:i4 K vs H Q E):spF K [0] dr F vs H Q E:=by
 obtain ⟨a,ns,rfl,hs,_,hl,q⟩:=q;obtain ⟨outs,e⟩:=h ns hl;have fz:FzL K (fun _=>False) H a (ns.map V.int):=by
  rcases hs with hs | hs
  ·exact .inl ⟨hs,fun z=>z⟩
  ·exact .inr fun H'=>.inr hs
 have eO:Own (fun _=>NoA) NoA=(fun _=>False):=dg fun b=>⟨fun z=>z.elim (fun ⟨_,z⟩=>z) fun z=>z,fun z=>z.elim⟩;refine ⟨NoA,[.list (ns.map .int)],fun _=>NoA,.bool true,outs,⟨fun i t hi=>?_,fun _ _ _ z=>z.elim,fun _ _ z=>z.elim,fun b z=>?_,rfl,rfl⟩,e,fun v H' R' Fr _ o=>?_⟩
 ·cases i with
  | zero =>
   have:t=.list (ns.map .int):=by
    have h2:some (some (PyData.list (ns.map .int)))=some (some t):=hi;injection h2 with h3
    injection h3 with h4
    exact h4.symm
   subst this;refine ⟨.ref a,0,rfl,rfl,?_⟩;rw [eO];exact ⟨a,ns.map V.int,rfl,.inl ⟨rfl,fz,iC ns⟩⟩
  | succ i=>simp at hi
 ·rw [eO] at z;exact z.elim
 ·rw [show v=.bl true from o];exact q H'
section
variable {c:MT} {b:MS} {en en1 en2:En} {fl:Fl} {t:D}
def fO:∀ {n m:Nat} {en:En} {fl:Fl},whN c b n en=some fl->n<=m->whN c b m en=some fl
 | 0,_,_,_,h,_=>by cases h
 | n+1,0,_,_,_,h=>by omega
 | n+1,m+1,en,fl,h,hm=>by
  unfold whN at h ⊢;obtain ⟨r,h1,h⟩:=zaa.mp h;rw [h1];show (if r.1=true then _ else _)=_;by_cases hr:r.1=true
  ·rw [if_pos hr] at h ⊢;obtain ⟨f1,h2,h⟩:=zaa.mp h;rw [h2];cases f1 with
   | nx e=>exact fO (n:=n) (m:=m) h (by omega)
   | ct e=>exact fO (n:=n) (m:=m) h (by omega)
   | rt t e=>exact h
  ·rw [if_neg hr] at h ⊢;exact h
def eU {n:Nat} (h:whN c b n en=some fl):bB c b en=some fl:=by
 have q:∃ n fl,whN c b n en=some fl:=⟨n,fl,h⟩;unfold bB;rw [dif_pos q];have h2:=q.choose_spec.choose_spec;have h3:=fO h (Nat.le_max_left n q.choose);have h4:=fO h2 (Nat.le_max_right n q.choose);rw [h3] at h4;exact h4.symm
def lU (h:c en=some (false,en1)):bB c b en=some (.nx en1):=by
 refine eU (n:=1) ?_;unfold whN;rw [h];rfl
def lV (h:c en=some (true,en1)) (h1:b en1=some (.nx en2)) (h2:bB c b en2=some fl):bB c b en=some fl:=by
 obtain ⟨n,h3⟩:=e8 h2;refine eU (n:=n+1) ?_;unfold whN;rw [h];show (b en1).bind _=_;rw [h1];exact h3
def dO {c:MT} {f:ME} {p:D->Bool} {F:D->D} {rest:En}:∀ (ts acc:List D) (o:Option D),(∀ t∈ts,c (some t :: rest)=some (p t,some t :: rest))->(∀ t∈ts,p t=true->f (some t :: rest)=some (F t,some t :: rest))->acc.length+ts.length<=sizeLine ->
  ∃ o',lcF (gN 0) c f ts acc (o :: rest)=some (acc++(ts.filter p).map F,o' :: rest)
 | [],acc,o,_,_,_=>⟨o,by simp [lcF]⟩
 | t :: ts,acc,o,hc,hf,hl=>by
  have hl':acc.length+(ts.length+1)<=sizeLine:=hl;cases hp:p t with
  | true =>
   obtain ⟨o',h⟩:=dO (c:=c) (f:=f) (p:=p) (F:=F) ts (acc++[F t]) (some t) (fun x hx=>hc x (zaj _ hx)) (fun x hx=>hf x (zaj _ hx)) (by rw [zae]; show acc.length+1+_<=_; omega);refine ⟨o',?_⟩;unfold lcF;show ((c (some t :: rest)).bind _)=_;rw [hc t zaq,hp];show ((f (some t :: rest)).bind _)=_;rw [hf t zaq hp];show (if acc.length < sizeLine then _ else _)=_;rw [if_pos (by omega)]
   dsimp only
   rw [h,List.filter_cons_of_pos hp];simp
  | false =>
   obtain ⟨o',h⟩:=dO (c:=c) (f:=f) (p:=p) (F:=F) ts acc (some t) (fun x hx=>hc x (zaj _ hx)) (fun x hx=>hf x (zaj _ hx)) (by omega);refine ⟨o',?_⟩;unfold lcF;show ((c (some t :: rest)).bind _)=_;rw [hc t zaq,hp];show lcF (gN 0) c f ts acc (some t :: rest)=_;rw [h,List.filter_cons_of_neg (by rw [hp]; decide)]
def xn {f:ME} {F:D->D} {rest:En} (ts acc:List D) (o:Option D) (hf:∀ t∈ts,f (some t :: rest)=some (F t,some t :: rest)) (hl:acc.length+ts.length<=sizeLine) :
  ∃ o',lcF (gN 0) cY f ts acc (o :: rest)=some (acc++ts.map F,o' :: rest):=by
 obtain ⟨o',h⟩:=dO (c:=cY) (f:=f) (p:=fun _=>true) (F:=F) ts acc o (fun _ _=>rfl) (fun t ht _=>hf t ht) hl;rw [List.filter_eq_self.mpr (fun _ _=>rfl)] at h;exact ⟨o',h⟩
end
section
variable {c c1 c2:MT} {m1 m2 b:MS} {en en1 en2:En} {fl:Fl} {t t1 t2 u:D} {f f1 f2:ME} {g:D->D->Option D} {fa:MA} {i n:Nat} {x y:Bool} {F:List D->Option (D × En)} {as:List (D ⊕ Nat)} {ts:List D} {outs:En} {dps:List Nat}
def gY (h1:m1 en=some (.nx en1)) (h2:m2 en1=some fl):ak m1 m2 en=some fl:=by unfold ak; rw [h1]; exact h2
def Cf (h1:m1 en=some (.rt t en1)):ak m1 m2 en=some (.rt t en1):=by unfold ak; rw [h1]; rfl
def pd {b:Bool} (h1:c en=some (b,en1)) (hb:b=true) (h2:m1 en1=some fl):sIf c m1 m2 en=some fl:=by unfold sIf; rw [h1,hb]; exact h2
def pf {b:Bool} (h1:c en=some (b,en1)) (hb:b=false) (h2:m2 en1=some fl):sIf c m1 m2 en=some fl:=by unfold sIf; rw [h1,hb]; exact h2
def Ce (h:f en=some (t,en1)) (he:en1.set i (some t)=en2):ay i f en=some (.nx en2):=by unfold ay; rw [h,<- he]; rfl
def wI (h:f en=some (t,en1)):aN f en=some (.rt t en1):=by unfold aN; rw [h]; rfl
def da (h1:f1 en=some (t1,en1)) (h2:f2 en1=some (t2,en2)) (h:g t1 t2=some u):e2 g f1 f2 en=some (u,en2):=by
 unfold e2;rw [h1];show (f2 en1).bind _=_;rw [h2];show (g t1 t2).map _=_;rw [h];rfl
def mI {b:Bool} {r:Bool × En} (h1:c1 en=some (b,en1)) (hb:b=true) (h2:c2 en1=some r):cI c1 c2 en=some r:=by unfold cI; rw [h1,hb]; exact h2
def yf {b:Bool} (h1:c1 en=some (b,en1)) (hb:b=false):cI c1 c2 en=some (false,en1):=by unfold cI; rw [h1,hb]; rfl
def gh {b:Bool} (h:f en=some (.bool b,en1)):tV f en=some (b,en1):=by unfold tV; rw [h]; rfl
def nz {g:List D->Option D} (h1:fa en=some (as,en1)) (h2:vals as=some ts) (h:g ts=some t):eN g fa en=some (t,en1):=by
 unfold eN;rw [h1];show (vals as).bind _=_;rw [h2];show (g ts).map _=_;rw [h];rfl
def nA {r:MA} (h1:f en=some (t,en1)) (h2:r en1=some (as,en2)):af f r en=some (.inl t :: as,en2):=by
 unfold af;rw [h1];show (r en1).map _=_;rw [h2];rfl
def pc (h1:fa en=some (as,en1)) (h2:vals as=some ts) (h:ts.length<=sizeLine):aY fa en=some (.list ts,en1):=by
 unfold aY;rw [h1];show (vals as).bind _=_;rw [h2];exact if_pos h
def bz:100<=sizeLine:=by rw [sizeLine_eq]; decide
def oV (h:b (ts.map some++List.replicate n none)=some (.rt t en)):fnF n dps b ts=some (t,msk dps en):=by
 unfold fnF;rw [h];rfl
end
namespace Pen2
def bu:MS:=(aN (Do [((eC (.str "script")),(ae 0)),((eC (.str "at")),(ae 1)),((eC (.str "left")),(eC (.int 0)))]))
def F_law_pen:List D->Option (D × En):=fnF 0 [0,0] bu
def ma:MS:=(ak (ay 2 (e2 bn (e2 bK (e2 aZ (e2 aZ (e2 bn (ae 0) (eC (.int 2147483629))) (e2 bK (eC (.int 40503)) (ae 1))) (eC (.int 24691))) (eC (.int 48271))) (eC (.int 2147483647))))
 (ak (ay 3 (e2 bn (e2 aZ (e2 aZ (e2 bK (ae 2) (ae 2)) (e2 bK (eC (.int 69621)) (ae 2))) (ae 1)) (eC (.int 2147483629))))
 (aN (e2 e6 (e2 bn (e2 aZ (e2 aZ (e2 bK (ae 3) (ae 3)) (e2 bK (eC (.int 16807)) (ae 3))) (e2 bK (eC (.int 31)) (ae 1))) (eC (.int 1073741789))) (eC (.int 64))))))
def l9:List D->Option (D × En):=fnF 2 [0,0] ma
def b6:MS:=(ak (ay 2 (hC 0 (eC (.str "at"))))
 (ak (ay 3 (hC 0 (eC (.str "script"))))
 (ak (sIf (tV (e2 eqD (hC 0 (eC (.str "left"))) (eC (.int 0)))) (ak (bY 0 (eC (.str "at")) (e2 aZ (ae 2) (eC (.int 1))))
 (ak (ay 4 (eC (.int 0)))
 (ak (sIf (tV (e2 gtI (eN bC (af (ae 3) ai)) (eC (.int 0)))) (ay 4 (e2 ixA (ae 3) (e2 bn (ae 2) (eN bC (af (ae 3) ai))))) be)
 (ak (sIf (bOr (tV (e2 geI (ae 2) (eN bC (af (ae 3) ai)))) (tV (e2 ltI (eN gp (af (ae 4) ai)) (e2 jE (eC (.int 10)) (eC (.int 18)))))) (aN (e2 bn (av l9 (af (ae 4) (af (ae 2) ai))) (ae 1))) be)
 (bY 0 (eC (.str "left")) (eN gp (af (ae 4) ai))))))) be)
 (ak (ay 5 (e2 bn (hC 0 (eC (.str "left"))) (ae 1)))
 (ak (bY 0 (eC (.str "left")) (e2 e6 (hC 0 (eC (.str "left"))) (ae 1)))
 (aN (ae 5)))))))
def ax:List D->Option (D × En):=fnF 4 [1,0] b6
end Pen2
end L2
namespace L2
open PySem PySem.Spec PyProof.Rows
def mJ {t:D} (hn:aj t=true) (hd:a7 t<=60):eqD t t=some (.bool true):=by
 show grd _ (PyData.bool (peq t t))=_;rw [ei _ hn];exact if_pos ⟨hn,hn,hd⟩
def Ci (a b:Int):eqD (.int a) (.int b)=some (.bool (a == b)):=by
 show grd _ _=_;unfold grd;rw [if_pos ⟨rfl,rfl,Nat.zero_le _⟩];simp only [peq]
def Bb (a b:Int):neD (.int a) (.int b)=some (.bool (!(a == b))):=by
 show grd _ _=_;unfold grd;rw [if_pos ⟨rfl,rfl,Nat.zero_le _⟩];simp only [peq]
structure Df (K:PySem.W.Frag) (x:Str) (st:Stmt) (f:Addr):Prop where
 a:PySem.W.nsIn K mainGlobals x=some (some (.ref f))
 l:∃ oc od kV dc pm an cd ct sl,K.lookup f=some ⟨oc,od,.func (PySem.W.fnOf x x (cD st) (bH st) (am st) .none kV dc pm an cd ct),sl⟩/\PySem.W.codeIn K cd x=true
 k:PySem.W.keepIn K (.ref f)=true
section
variable {P:Program} {w:World} {K:PySem.W.Frag} {mg:Str->Option Value} {base h:Heap} {k dr:Nat} {x:Str} {ps:List Str} {dps:List Nat} {f:Addr} {st:Stmt} {sp:Sp}
def Df.mk' {oc:Value} {od an:Option Addr} {sl:Array (Option Value)} {kV dc pm cd ct:Value} (a:PySem.W.nsIn K mainGlobals x=some (some (.ref f))) (l:K.lookup f=some ⟨oc,od,.func (PySem.W.fnOf x x (cD st) (bH st) (am st) .none kV dc pm an cd ct),sl⟩) (c:PySem.W.codeIn K cd x=true) (k:PySem.W.keepIn K (.ref f)=true):Df K x st f :=
 ⟨a,⟨oc,od,kV,dc,pm,an,cd,ct,sl,l,c⟩,k⟩
def Df.kn (d:Df K x st f) (X:K.In h) (G:h.Ns mainGlobals mg) (b:∀ (kV doc pm:Value) (an:Option Addr) (cdv ct:Value) (us:List Value),us.length=ps.length->bindArgs (PySem.W.fnOf x x (cD st) (bH st) (am st) .none kV doc pm an cdv ct) ⟨us,[]⟩=pure (ps.zip us))
  (ok:∀ fd,Fun K x x st f fd->FnOk P w K mg base CX0 k f fd ps sp):Kn P w K mg base k x ps sp:=by
 obtain ⟨_,_,_,_,_,_,_,_,_,l,c⟩:=d.l;have F:=oJ (st:=st) l c d.k;exact ⟨_,_,ok _ F,PySem.W.mg_of X G d.a,d.k,F.binds b⟩
end
section
variable {X:Cx} {K:PySem.W.Frag} {p:Bool} {ds ds1 ds2 ds':List Nat} {d d1 d2:Nat} {a b e:Expr} {es:List Expr} {f f1 f2:ME} {fa:MA} {sh:Sh} {pos px:Pos} {x:Str} {J:Jd} {k dr:Nat} {ps:List Str} {dps:List Nat} {F:List D->Option (D × En)} {g:List D->Option D}
abbrev vck (X:Cx) (x:Str) (i:Nat) (n:NameKind):Prop:=(X.N[i]?,X.env.scope.names.lookup x,x == ("__debug__" : Str),x == ("__classdict__" : Str))=(some x,some n,false,false)
def fv (i:Nat) (h:vck X x i .local) (h0:ds[i]?=some 0):QE X (.Name x pos) (tF K p ds ds 0 (ae i)):=by
 simp only [vck,zaZ] at h;exact bw h.1 (.inl h.2.1) h0 h.2.2.1 h.2.2.2
def fvc (i:Nat) (h:vck X x i .cell) (h0:ds[i]?=some 0):QE X (.Name x pos) (tF K p ds ds 0 (ae i)):=by
 simp only [vck,zaZ] at h;exact bw h.1 (.inr (.inl h.2.1)) h0 h.2.2.1 h.2.2.2
def fsl (i:Nat) (hr:QA X es (tFA K p ds ds2 sh fa)) (h:vck X x i .local):QA X (.Name x pos :: es) (tFA K p ds ds2 (.inr i :: sh) (aS i fa)):=by
 simp only [vck,zaZ] at h;exact jp h.1 (.inl h.2.1) hr h.2.2.1 h.2.2.2
def gU (i:Nat) (hr:QA X es (tFA K p ds ds2 sh fa)) (h:vck X x i .cell):QA X (.Name x pos :: es) (tFA K p ds ds2 (.inr i :: sh) (aS i fa)):=by
 simp only [vck,zaZ] at h;exact jp h.1 (.inr (.inl h.2.1)) hr h.2.2.1 h.2.2.2
def fs0 (h:QE X e (tF K p ds ds' d f)):QE X e (tF K p ds ds' 0 f):=cZ h (Nat.zero_le _)
def frt (he:QE X e (tF K false ds ds1 J.dr f)) (hd:leD J.dsr ds1=true):QSs X [.Return (some e) pos] (tFS K J ds ds' (aN f)):=aD (oQ he hd)
abbrev cck (X:Cx) (x:Str) (e:Expr) (es:List Expr):Prop:=(X.env.kindOf x,x == ("__debug__" : Str),aG e,es.all aG)=(some .globalImplicit,false,true,true)
def fnn (G:Kn X.prog X.w X.K X.mg X.base k x ps (spF K dps dr F)) (hr:Room k X.A) (ha:QA X (e :: es) (tFA K p ds ds1 sh fa)) (h:cck X x e es) (h2:(eA sh,ci ds1 sh dps)=(true,true)):QE X (.Call (.Name x px) (e :: es) [] pos) (tF K p ds ds1 dr (av F fa)):=by
 simp only [cck,zaZ] at h h2;exact ya G hr h.1 ha h2.1 h2.2 h.2.1 h.2.2.1 h.2.2.2
def fns (G:Kn X.prog X.w X.K X.mg X.base k x ps (spF K dps dr F)) (hr:Room k X.A) (ha:QA X (e :: es) (tFA K false ds ds1 sh fa)) (h:cck X x e es) (h2:ci ds1 sh dps=true):QE X (.Call (.Name x px) (e :: es) [] pos) (tF K false ds ds1 dr (av F fa)):=by
 simp only [cck,zaZ] at h;exact qG G hr h.1 ha h2 h.2.1 h.2.2.1 h.2.2.2
def fcb {id:String} (hc:CallR X (.builtin id) (rFn K g d)) (hm:X.mg x=none) (hv:bootBuiltins x=some (.builtin id)) (ha:QA X (e :: es) (tFA K p ds ds1 sh fa)) (h:cck X x e es) (h2:(bm 0 sh,x == ("__name__" : Str))=(true,false)):QE X (.Call (.Name x px) (e :: es) [] pos) (tF K p ds ds1 d (eN g fa)):=by
 simp only [cck,zaZ] at h h2;exact jo hc h.1 hm hv ha h2.1 (by simpa using h2.2) h.2.1 h.2.2.1 h.2.2.2
def fct {id:String} (hc:CallR X (.type id) (rFn K g d)) (hm:X.mg x=none) (hv:bootBuiltins x=some (.type id)) (ha:QA X (e :: es) (tFA K p ds ds1 sh fa)) (h:cck X x e es) (h2:(bm 0 sh,x == ("__name__" : Str))=(true,false)):QE X (.Call (.Name x px) (e :: es) [] pos) (tF K p ds ds1 d (eN g fa)):=by
 simp only [cck,zaZ] at h h2;exact l6 hc h.1 hm hv ha h2.1 (by simpa using h2.2) h.2.1 h.2.2.1 h.2.2.2
def fln (hK:X.K=K) (hm:X.mg "len"=none) (ha:QA X (e :: es) (tFA K p ds ds1 sh fa)) (h:cck X "len" e es) (h2:bm 0 sh=true):QE X (.Call (.Name "len" px) (e :: es) [] pos) (tF K p ds ds1 3 (eN bC fa)):=by
 simp only [cck,zaZ] at h;exact jo (BL hK) h.1 hm (by decide +kernel) ha h2 (by decide) h.2.1 h.2.2.1 h.2.2.2
def fte (hK:X.K=K) (hu:X.A.units+64 < cLine) (ha:QE X a (tF K p ds ds1 d1 f1)) (hb:QE X b (tF K p ds1 ds2 d2 f2)):QT X (.Compare a [.Eq] [b] pos) (tFT K p ds ds2 (tV (e2 eqD f1 f2))):=a6 (iz hK hu) ha hb (ba _)
def ftn (hK:X.K=K) (hu:X.A.units+64 < cLine) (ha:QE X a (tF K p ds ds1 d1 f1)) (hb:QE X b (tF K p ds1 ds2 d2 f2)):QT X (.Compare a [.NotEq] [b] pos) (tFT K p ds ds2 (tV (e2 neD f1 f2))):=a6 (CW hK hu) ha hb (ba _)
def fxi {n:Int} {j:Nat} {q:Pos} (hK:X.K=K) (ha:QE X a (tF K p ds ds1 d1 f1)):QE X (.Subscript a (.Constant (.int n) j q) pos) (tF K p ds ds1 0 (e2 ixA f1 (eC (.int n)))):=dX (iw hK) ha ah fun _ _=>rfl
def aK (i:Nat) (ds':List Nat) {pos':Pos} (hN:X.N.Nodup) (he:QE X e (tF K false ds ds1 d f)) (h:(X.N[i]?,X.env.scope.names.lookup x,X.fn x)=(some x,some .local,true)) (h2:(ds1.set i d,decide (i < ds1.length),J.lk.contains i)=(ds',true,false)) (hs:swapsWith e (some (.Name x pos')) pos.line X.env=pure false):QS X (.Assign [.Name x pos'] e pos) (tFS K J ds ds' (ay i f)):=by
 simp only [zaZ,decide_eq_true_eq] at h h2;exact e5 hN h.1 (.inl h.2.1) he h2.1 h2.2.1 (by simpa using h2.2.2) hs (.inl h.2.2)
end
end L2
namespace PySem
def kd:entryFor table "dict.update.loop"=some Builtin.«dict.update.loop»:=entryFor_of_tree (by kernel_rfl)
def eV:plainId "dict.update.loop"=true:=by decide +kernel
section
variable {prog:Program} {w:World} {A:Around} {R:Result->Shared->Prop} {I:Addr} {fp wr:List Addr} {G:Array GenState->Array GenState->Prop} {n:Nat} {P:Nat->Value->Prop} {St:Nat->Shared->Prop} {K:Type} [DecidableEq K] {knd:KeyKind prog w K}
def mZ (ks:Nat->K) (vals:Nat->Value):Nat->Nat->List (K × Value)->List (K × Value)
 | 0,_,kvs=>kvs
 | k+1,i,kvs=>mZ ks vals k (i+1) (stored kvs (ks i) (vals i))
def mY (kvs:List (K × Value)) (k:K) (v:Value):(stored kvs k v).length<=kvs.length+1:=by
 unfold stored;split
 ·rw [zad]; omega
 ·rw [zae]; exact zav _
def pH (W:WalksS prog w A.in1 I fp wr G n P St) (d:Addr) (hdf:d ∉ fp) (ks:Nat->K) (vals:Nat->Value) (h0:Heap)
  (hp:∀ i v,P i v->∃ a o key m,v=.ref a/\a ∉ wr/\a≠d/\h0.get? a=some o/\o.cls=.type "tuple"/\o.data=.seq #[key,vals i] m/\knd.is (ks i) key=true) :
  ∀ (k i:Nat) (s:Shared) (c:Int) (kvs:List (K × Value)),n - i=k->i<=n->St i s->s.heap.DictOf knd d kvs->(∀ b o,b ∉ wr->b≠d->h0.get? b=some o->s.heap.get? b=some o)->kvs.length+k<=sizeLine ->
  (∀ s',s'.heap.DictOf knd d (mZ ks vals k i kvs)->Moved (d :: wr) G s s'->R (.ok (.ret .none)) s')->codeAny (model prog w) A (.builtin "dict.update.loop" ⟨[.ref d,.ref I,rawInt c,.none],[]⟩) R s:=by
 have hdw:d ∉ wr:=fun h=>hdf (W.sub _ h);have hsub:∀ b∈wr,b∈d :: wr:=fun b hb=>zaj _ hb;intro k
 induction k with
 | zero =>
  intro i s c kvs hk hi hst hd hb hz hR;have hin:i=n:=by omega
  subst hin;refine codeAny_builtin kd ?_;rw [Around.under_plainId eV _];show wpAny _ A.in1 (pyNext (.ref I) >>= _) _ _ s;refine zam (W.done s _ _ hst fun s' hm=>?_);obtain ⟨o,es,ep,g1,g2⟩:=hd;exact zam (zaR (zaR (hR s' ⟨o,es,ep,hm.heap d o hdw g1,g2⟩ (hm.mono hsub))))
 | succ k ih =>
  intro i s c kvs hk hi hst hd hb hz hR;have hlt:i < n:=by omega
  refine codeAny_builtin kd ?_;rw [Around.under_plainId eV _];show wpAny _ A.in1 (pyNext (.ref I) >>= _) _ _ s;refine zam (W.item i s _ _ hlt hst fun v s' hP hst' hm=>?_);obtain ⟨a,o,key,m,rfl,aw,ad,ga,gc,gd,gk⟩:=hp i v hP;have ga':=hm.heap a o aw (hb a o aw ad ga);have hT:s'.TypeIs (.ref a) "tuple":=⟨o,ga',gc⟩;have hd':s'.heap.DictOf knd d kvs:=by
   obtain ⟨o,es,ep,g1,g2⟩:=hd;exact ⟨o,es,ep,hm.heap d o hdw g1,g2⟩
  show wpAny _ A.in1 (holding [Value.ref a] _ >>= _) _ _ s';refine zam (wpAny_holding ?_);refine zam (wpAny_tryCatch ?_);unfold Builtin.Dict.pairItems;refine zam (wpAny_typeOf hT ?_);rw [if_pos (by decide)];refine zam (wpAny_seqItems ga' gd ?_);refine zaR ?_;show wpAny _ A.in1 (holding [key,vals i] (dictSet d key (vals i))) _ _ s';refine wpAny_holding (wpAny_dictSet_pairs (hsz:=by omega) gk hd' fun h' dd hs=>?_);refine zaR ⟨plainId_quiet eV _,ih (i+1) _ (c+1) _ (by omega) hlt (W.frame _ s' _ _ hst' (Nat.le_succ _) fun b hb' o' e=>?_) dd (fun b o' h1 h2 e=>?_) ?_ fun s'' d'' hm''=>?_⟩
  ·exact (hs.2 b (fun h:b=d=>hdf (by rw [<- h]; exact hb'))).trans e
  ·exact (hs.2 b h2).trans (hm.heap b o' h1 (hb b o' h1 h2 e))
  ·have:=mY kvs (ks i) (vals i);omega
  ·refine hR s'' d'' (Moved.trans W.gtrans ((hm.mono hsub).then_heap (Nat.le_succ _) fun b o' hb' e=>?_) hm'');exact (hs.2 b (fun h:b=d=>hb' (by rw [h]; exact zaq))).trans e
end
def xj:typeLookup (.type "list") "keys"=pure none:=by rw [typeLookup_type,builtinLookup_eq_fast]; kernel_rfl
def oo {prog:Program} {w:World} {A:Around} {E:Value->Shared->Prop} {s:Shared} {a:Addr} {o:Obj} {xs:Array Value} {n:Nat} {Q:Option Value->Shared->Prop}
  (g:s.heap.get? a=some o) (g1:o.cls=.type "list") (g2:o.data=.seq xs n) (g3:o.dict=none) (hA:A.handled=none)
  (h:∀ h' tk,(∀ b u,s.heap.get? b=some u->h'.get? b=some u)->Q none { s with heap:=h',toks:=tk }):wpAny (model prog w) A (getAttr? (.ref a) "keys") Q E s:=by
 obtain ⟨c,dct,dat,sl⟩:=o;simp only at g1 g2 g3;subst g1 g2 g3;obtain ⟨hp,gn,dr,tk,os⟩:=s;have ty:∀ t,(⟨hp,gn,dr,t,os⟩:Shared).TypeIs (.ref a) "list":=fun _=>⟨_,g,rfl⟩;have q1:=sub_AttributeError;have q2:=F.slot_list_getattribute.lookup;have q3:=F.slot_list_getattribute.bind (.ref a);have q4:=am_list_getattr_none;unfold getAttr? getAttrBy? getAttrBy
 repeat (any_goals (first
  | assumption
  | exact ty _
  | ((with_reducible show wpAny _ _ (call (Value.builtin "list.__getattribute__") _ _) _ _ _)
     refine call_meets F.slot_list_getattribute (ty _) am_entry_list_getattribute (F.args_list_getattribute_2 _ _) (meets_getattribute_miss_list a xs n sl "keys" _ xj (by decide +kernel)) ⟨g,hA,fun h' t' e x=>?_⟩)
  | wp_step))
 obtain ⟨t',u',he⟩:=x.there;show wpAny _ _ (getattributeRaised _ _ _ _ _ _ _) _ _ _;unfold getattributeRaised
 repeat (any_goals (first | assumption | wp_step))
 exact h _ _ x.keeps
end PySem
namespace L2
open PySem PySem.Spec PyProof.Rows
def dh (ps:List (Key × V)) (kvs:List (Key × V)):List (Key × V):=ps.foldl (fun kvs q=>bp kvs q.1 q.2) kvs
def AJ (K:PySem.W.Frag):List V->Hp->VK->Prop:=fun xs H Q=>∃ (p:Addr) (as:List Addr) (ps:List (Key × V)),xs=[.ref p]/\SqL K H p (as.map .ref)/\Paired (fun a q=>SqT K H a [kV q.1,q.2]) as ps/\∀ l,H l=none->Q (.ref l) (upd H l (.dK (dh ps [])))
def i8:∀ (ps kvs:List (Key × V)),(dh ps kvs).length<=kvs.length+ps.length
 | [],kvs=>zav _
 | q :: ps,kvs=>by
  have h1:=i8 ps (bp kvs q.1 q.2);have h2:=e9 kvs q.1 q.2;show (dh ps (bp kvs q.1 q.2)).length<=_;rw [zac];omega
def mj {ks:Nat->Key} {vals:Nat->Value} {ps:List (Key × V)} (hv:∀ i q,ps[i]?=some q->ks i=q.1/\RelV q.2 (vals i)):∀ (k i:Nat) (kvs:List (Key × V)) (vs:List (Key × Value)),ps.length - i=k->KV kvs vs->KV (dh (ps.drop i) kvs) (mZ ks vals k i vs)
 | 0,i,kvs,vs,h,r=>by
  rw [List.drop_eq_nil_of_le (by omega)];exact r
 | k+1,i,kvs,vs,h,r=>by
  have hi:i < ps.length:=by omega
  obtain ⟨h1,h2⟩:=hv i ps[i] (zak hi);rw [List.drop_eq_getElem_cons hi];show KV (dh (ps.drop (i+1)) (bp kvs ps[i].1 ps[i].2)) (mZ ks vals k (i+1) (stored vs (ks i) (vals i)));rw [h1];exact mj hv k (i+1) _ _ (by omega) (r.put _ h2)
section
variable {X:Cx}
def nF (hc:X.calm=true):CallR X (.type "dict") (AJ X.K):=by
 intro pins s σ H xs us Q I r h;obtain ⟨p,as,ps,rfl,hp,hps,q⟩:=h;obtain ⟨u,rfl,ru⟩:=eT r;cases ru;obtain ⟨its,rv,⟨ol,nl,g,g1,g2,g3⟩,hz⟩:=I.list hp;have hlt:p < s.heap.objs.size:=zal g;have la:as.length=ps.length:=Paired.length hps;have li:its.length=ps.length:=by rw [<- rv.length,zad,la]
 refine callType_codes (Q₁:=fun obj z=>obj=.ref s.heap.objs.size/\z={ s with heap:=s.heap.push { cls:=.type "dict",data:=.dict #[] } }) F.kt_called_dict (F.kt_typeCall_dict_1 _) F.entry_dict_init (kt_code_dict_new _ ⟨rfl,rfl⟩) ?_;rintro obj z ⟨rfl,rfl⟩;have new0:(s.heap.push { cls:=.type "dict",data:=.dict #[] }).DictOf (aM X.prog X.w) s.heap.objs.size []:=Heap.DictOf.new s.heap;have g':=zaf { cls:=.type "dict",data:=.dict #[] } g;refine ⟨new0.typeIs,F.args_dict_init_2 _ _,?_⟩;unfold Builtin.«dict.__init__» Builtin.Dict.selfAndRest;refine zam (zam (wpAny_notOrdered_dict new0.typeIs ?_));refine zaR ?_;show wpAny _ _ (Builtin.Dict.updateFrom "dict.__init__" s.heap.objs.size (.ref p) [] .none) _ _ _;unfold Builtin.Dict.updateFrom;refine zam (wpAny_typeOf (T:="list") ⟨ol,g',g1⟩ ?_);rw [if_pos (by decide)];refine zam (oo g' g1 g3 g2 (show X.A.in1.in1.handled=none from I.ok.hd hc) fun h' tk hk=>?_);rw [if_pos (show (none:Option Value).isNone=true from rfl)];refine zam (wpAny_rule ?_);have pl':h'.IsList p its.toArray:=⟨ol,hk _ _ g',g1,nl,g3⟩;refine zam (wpAny_pyIter_list pl' ?_);have new1:(h'.push { cls:=.type "list_iterator",data:=.fields #[.ref p,.int 0 0] }).DictOf (aM X.prog X.w) s.heap.objs.size []:=by
  obtain ⟨o,es,ep,e,r⟩:=new0;exact ⟨o,es,ep,zaf _ (hk _ _ e),r⟩
 have dlt:s.heap.objs.size < h'.objs.size:=by
  obtain ⟨o,es,ep,e,r⟩:=new0;exact zal (hk _ _ e)
 have plt:p < h'.objs.size:=zal (hk _ _ g');have hsz:its.toArray.size=ps.length:=by rw [zai,li]
 have tp:∀ (i:Nat) (q:Key × V),ps[i]?=some q->∃ a key val o m,as[i]?=some a/\s.heap.get? a=some o/\o.cls=.type "tuple"/\o.data=.seq #[key,val] m/\RelV (kV q.1) key/\RelV q.2 val:=fun i q hq=>by
  have hi:i < as.length:=by rw [la]; exact (zah.mp hq).1
  obtain ⟨q',h1,h2⟩:=Paired.at hps (zak hi);rw [h1] at hq;cases hq;obtain ⟨ts,rt,⟨o,e,c,m,d⟩,_⟩:=I.tuple h2;cases rt with
  | cons r1 rt =>
   cases rt with
   | cons r2 rt =>
    cases rt;exact ⟨_,_,_,o,m,zak hi,e,c,d,r1,r2⟩
 let kf:Nat->Key:=fun i=>((ps[i]?).map (·.1)).getD (.inl 0);let vf:Nat->Value:=fun i=>match as[i]? with
  | some a=>match s.heap.get? a with
   | some o=>match o.data with
    | .seq xs _=>(xs[1]?).getD .none
    | _=>.none
   | none=>.none
  | none=>.none
 have vfe:∀ (i:Nat) (q:Key × V),ps[i]?=some q->kf i=q.1/\RelV q.2 (vf i):=fun i q hq=>by
  obtain ⟨a,key,val,o,m,h1,h2,h3,h4,h5,h6⟩:=tp i q hq;refine ⟨by show ((ps[i]?).map (·.1)).getD _=_; rw [hq]; rfl,?_⟩;show RelV q.2 (match as[i]? with
  | some a=>match s.heap.get? a with
   | some o=>match o.data with
    | .seq xs _=>(xs[1]?).getD .none
    | _=>.none
   | none=>.none
  | none=>.none)
  rw [h1];simp only [h2,h4];exact h6
 refine zaR ⟨plainId_quiet eV _,pH (I:=h'.objs.size) (fp:=[h'.objs.size,p]) (wr:=[h'.objs.size]) (knd:=aM X.prog X.w) (P:=fun i v=>its.toArray[i]?=some v)
  (Walks.list (A:=X.A.in1.in1) (show X.A.in1.in1.handled=none from I.ok.hd hc) h'.objs.size p (zaw plt) its.toArray).toS s.heap.objs.size ?_ kf vf s.heap ?_ its.toArray.size 0 _ 0 [] rfl (Nat.zero_le _) ?_ new1 ?_ ?_ fun s' dd hm=>?_⟩
 ·intro z;have z':s.heap.objs.size=h'.objs.size\/s.heap.objs.size=p:=by simpa using z
  rcases z' with z' | z'
  ·exact zaw dlt z'
  ·exact Nat.ne_of_gt hlt z'
 ·intro i v hv;have hv':its[i]?=some v:=by simpa using hv
  have hi:i < ps.length:=by rw [<- li]; exact (zah.mp hv').1
  obtain ⟨a,key,val,o,m,h1,h2,h3,h4,h5,h6⟩:=tp i ps[i] (zak hi);obtain ⟨u,hu,ru⟩:=rv.get (i:=i) (x:=.ref a) (by rw [zao,h1]; rfl);have eu:=zat (hu.symm.trans hv');subst eu;have eu:u=Value.ref a:=ru;subst eu;have alt:a < s.heap.objs.size:=zal h2;have ev:vf i=val:=by
   have e1:vf i=(match as[i]? with
    | some a=>match s.heap.get? a with
     | some o=>match o.data with
      | .seq xs _=>(xs[1]?).getD Value.none
      | _=>Value.none
     | none=>Value.none
    | none=>Value.none):=rfl
   rw [e1,h1];simp only [h2,h4];rfl
  refine ⟨a,o,key,m,rfl,?_,zaw alt,h2,h3,by rw [ev]; exact h4,?_⟩
  ·intro z;have z':a=h'.objs.size:=by simpa using z
   exact zaw (Nat.lt_trans alt dlt) z'
  ·rw [(vfe i _ (zak hi)).1];exact kz h5
 ·exact ⟨⟨_,zan _ rfl,rfl,rfl⟩,pl'.push _⟩
 ·exact fun b o _ _ e=>zaf _ (hk _ _ (zaf _ e))
 ·rw [hsz];rw [zad,la] at hz;show 0+_<=_;omega
 ·obtain ⟨hh,gn,dr,t2,os'⟩:=s';have x1:dr=s.drawn:=hm.drawn;have x2:os'=s.os:=hm.os;have x3:gn=s.gens:=hm.gens;subst x1 x2 x3;refine ⟨rfl,.ref s.heap.objs.size,_,I.laid (t':=t2) (fun b o e=>hm.heap b o ?_ (zaf _ (hk _ _ (zaf _ e)))) (zav _) ?_,rfl,q _ (I.hok.fresh (zav _))⟩
  ·intro z;have z':b=s.heap.objs.size\/b=h'.objs.size:=by simpa using z
   rcases z' with z' | z'
   ·exact zaw (zal e) z'
   ·exact zaw (Nat.lt_trans (zal e) dlt) z'
  ·have kv:=mj vfe its.toArray.size 0 [] [] (by rw [hsz]; rfl) .nil;rw [List.drop_zero] at kv;refine pp ?_ ?_ kv dd
   ·have:=i8 ps [];rw [zad,la] at hz;show _<=sizeLine;have e0:([]:List (Key × V)).length=0:=rfl;omega
   ·exact beq_eq_false_iff_ne.mpr (Nat.ne_of_gt I.big)
end
section
variable {X:Cx} {K:PySem.W.Frag} {O:AS} {H:Hp}
end
section
variable {X:Cx} {K:PySem.W.Frag} {p:Bool} {ds ds0 ds1 ds2:List Nat} {d d1:Nat} {k c o:Expr} {f fk fd:ME} {px apos cpos:Pos} {i:Nat} {σ:St} {H:Hp} {Q:VK}
end
section
variable {prog:Program} {w:World} {A:Around} {E:Value->Shared->Prop} {s:Shared}
end
section
variable {X:Cx} {K:PySem.W.Frag} {p:Bool} {ds ds1 ds2:List Nat} {d1 d2:Nat} {a b i o:Expr} {f1 f2:ME} {pos:Pos} {σ:St} {H:Hp} {Q:VK} {ty td:TE}
end
section
variable {X:Cx} {K:PySem.W.Frag} {p:Bool} {ds ds1 ds2:List Nat} {d1 d2:Nat} {a b k c:Expr} {f1 f2 fk fd:ME} {px apos cpos pos:Pos} {i:Nat}
end
section
variable {X:Cx} {pins:List (Addr × Obj)} {σ:St} {H:Hp} {s:Shared} {E:XK}
end
section
variable {X:Cx} {E:XK} {C:Addr} {bmB:List Value} {B newId initId:String} {x:Str} {np cpos pos:Pos} {a:Expr} {t:TA}
end
section
variable {X:Cx} {pins:List (Addr × Obj)} {σ:St} {H H1 H':Hp} {s s1 s':Shared} {E:XK} {D:Ends}
end
abbrev MX:=En->Option Unit
section
variable {X:Cx} {K:PySem.W.Frag} {p:Bool} {J:Jd} {ds ds0 ds1 ds' dps:List Nat} {H H' H'':Hp} {σ σ':St} {Dn:Ends} {R R':Nat->AS} {Ox F:AS} {en en':En} {m:MX} {Z:Hp->Prop} {f:MS} {cm:MT} {st:Stmt} {sts body els:List Stmt} {c:Expr} {pos np cpos p2:Pos} {E:XK}
end
section
variable {P:Program} {w:World} {K:PySem.W.Frag} {mg:Str->Option Value} {base:Heap}
end
section
variable {X:Cx} {K:PySem.W.Frag} {J:Jd} {ds ds1 ds' dps:List Nat} {sh:Sh} {fa:MA} {F:List D->Option (D × En)} {Rz:List D->Option Unit} {C C':Addr} {bmB:List Value} {newId newId':String} {fx x y:Str} {ps:List Str} {e:Expr} {es:List Expr} {xp fp cp ap yp hp np2 xp2 ap2 pos:Pos} {i j k:Nat}
end
section
variable {P:Program} {w:World} {K:PySem.W.Frag} {mg:Str->Option Value} {base h:Heap} {k dr:Nat} {x:Str} {ps:List Str} {dps:List Nat} {f:Addr} {st:Stmt} {sp:Sp}
end
section
variable {M:Model} {A:Around} {E:Value->Shared->Prop} {s:Shared}
end
section
variable {X:Cx} {pins:List (Addr × Obj)} {σ σ':St} {H:Hp} {s:Shared}
end
section
variable {X:Cx} {pins:List (Addr × Obj)} {σ:St} {H H1 H':Hp} {s s1 s':Shared} {E:XK}
end
abbrev MN:=En->Option Str
section
variable {X:Cx} {K:PySem.W.Frag} {p:Bool} {J:Jd} {ds ds0 ds1 ds' dps:List Nat} {H H' H'':Hp} {σ σ':St} {Dn:Ends} {R R':Nat->AS} {Ox F:AS} {en en':En} {m m1 m2:MN} {f:MS} {cm:MT} {st:Stmt} {sts body els:List Stmt} {c:Expr} {pos np cpos p2 fp cp ap xp:Pos} {E:XK} {cl:Str->Addr} {sh:Sh} {fa:MA} {Rz:List D->Option Str} {e:Expr} {es:List Expr} {fx x:Str} {ps:List Str} {k:Nat}
end
section
variable {K:PySem.W.Frag} {dps:List Nat} {cl:Str->Addr} {H:Hp} {Dn:Ends} {E:XK} {P:Program} {w:World} {mg:Str->Option Value} {base:Heap}
end
section
variable {fs ex:List Addr} {H H1 H':Hp} {h h1 h2:Heap} {a C:Addr} {o:HO} {P:Program} {w:World}
end
section
variable {X:Cx} {pins:List (Addr × Obj)} {σ:St} {H H1 H':Hp} {s s1 s':Shared} {E:XK} {D:Ends}
end
section
variable {K:PySem.W.Frag} {ds:List Nat} {Ox:AS} {H H':Hp} {σ:St} {en:En} {R:Nat->AS} {kp:List Nat}
end
section
variable {X:Cx} {pins:List (Addr × Obj)} {σ:St} {K:PySem.W.Frag} {p:Bool} {ds ds1 dps:List Nat} {m m1 m2:MN} {cm:MT} {body els:List Stmt} {c:Expr} {pos fp cp ap xp:Pos} {E:XK} {cl:Str->Addr} {sh:Sh} {fa:MA} {Rz:List D->Option Str} {e:Expr} {es:List Expr} {fx x:Str} {ps:List Str} {k:Nat}
end
section
variable {X:Cx} {K:PySem.W.Frag} {J:Jd} {ds ds1 ds':List Nat} {b hs:MS} {m:MN} {cl:Str->Addr} {kn:List Str} {kp:List Nat} {C':Addr} {bmB:List Value} {newId newId':String} {y n:Str} {j:Nat} {yp hp pos:Pos} {b₀:Stmt} {suite body:List Stmt}
end
end L2
namespace L2
open PySem PySem.Spec PyProof.Rows Builtin Builtin.ObjectAttr Builtin.Getset_descriptor
section
variable {prog:Program} {w:World} {A:Around} {E:Value->Shared->Prop} {s:Shared} {K:PySem.W.Frag} {a C:Addr}
end
section
variable {X:Cx} {K:PySem.W.Frag} {p:Bool} {ds ds1:List Nat} {d1:Nat} {e:Expr} {f:ME} {kn xs:List Str}
end
end L2
namespace L2
open PySem PySem.Spec PyProof.Rows
def oB {P:Program} {w:World} {k:Key} {v:Value} (h:(aM P w).is k v=true):RelV (kV k) v:=by
 rcases aV h with ⟨i,t,e1,e2⟩ | ⟨x,t,e1,e2⟩
 ·have e:k=Sum.inl i:=e1;rw [e,e2];exact ⟨t,rfl⟩
 ·have e:k=Sum.inr x:=e1;rw [e,e2];exact ⟨t,rfl⟩
section
variable {X:Cx} {K:PySem.W.Frag} {O:AS} {H:Hp}
def lF (hc:X.calm=true):CallR X (.type "list") (fun xs H Q=>∃ a kvs,xs=[.ref a]/\H a=some (.dK kvs)/\∀ l,H l=none->Q (.ref l) (upd H l (.lst (kvs.map fun q=>kV q.1)))):=by
 intro pins s σ H xs us Q I r h;obtain ⟨a,kvs,rfl,ha,q⟩:=h;obtain ⟨u,rfl,ru⟩:=eT r;cases ru;obtain ⟨z,hd,vs,rel,dd⟩:=kF I.hok ha;obtain ⟨o,es,ep,dr⟩:=dd;have hl:kvs.length=vs.length:=rel.length;refine PySem.W.kdl_call (PySem.W.kdl_dict (knd:=aM X.prog X.w) (kvs:=vs) (ep:=ep) hd) (I.ok.hd hc) ⟨o,es,dr⟩ (by omega) fun h' tk acc c' hk ho hi=>?_;have la:acc.toList.length=vs.length:=by rw [zaW]; exact hi.1
 have rv:Vals (kvs.map fun q=>kV q.1) acc.toList:=b8 (by rw [zad]; omega) fun i x v e1 e2=>by
  obtain ⟨k,y,hky,hv⟩:=hi.2 i v (by simpa using e2);rw [zao] at e1;obtain ⟨p,hp,rfl⟩:=zab.mp e1;have hkeys:=congrArg (fun l=>l[i]?) rel.keys;simp only [zao,hp,hky,Option.map_some,Option.some.injEq] at hkeys;rw [hkeys];exact oB hv
 exact ⟨.ref s.heap.objs.size,_,I.laid (t':=tk) (o:=.lst (kvs.map fun q=>kV q.1)) hk (zav _) ⟨by rw [zad]; exact z,acc.toList,c',rv,by simpa using ho⟩,rfl,q _ I.fresh⟩
def gL:∀ {ks:List (D × D)} {vs:List (Key × V)} {F:AS} {d:Nat},Owd K O H ks d vs F->Ows K O H (ks.map fun q=>q.1) 0 (vs.map fun q=>kV q.1) NoA
 | [],_,_,_,h=>by rw [show _=[] from h]; rfl
 | (k,t) :: ks,_,_,_,h=>by
  obtain ⟨q,v,r,F1,F2,e,e2,_,_,_,_,h5⟩:=h;subst e e2;refine ⟨kV q,_,NoA,NoA,rfl,fun _ z=>z,fun _ z=>z,fun _ z=>z.elim,?_,gL h5⟩;cases q <;> rfl
end
section
variable {X:Cx} {K:PySem.W.Frag} {p:Bool} {ds ds1:List Nat} {d1:Nat} {e:Expr} {f:ME} {kn xs:List Str}
end
def Falls (xs:Array Keyed) (k:Nat):Prop:=∀ i,i+1 < k->K xs (i+1) < K xs i
def Falls.nonInc {xs:Array Keyed} {k:Nat} (h:Falls xs k):NonInc xs k:=by
 have key:∀ d i,i+d < k->K xs (i+d)<=K xs i:=by
  intro d
  induction d with
  | zero=>intro i _; exact Int.le_refl _
  | succ d ih =>
   intro i hi;have a:=h (i+d) (by omega);have b:=ih i (by omega);rw [show i+(d+1)=i+d+1 by omega];omega
 intro i j hij hj
 have:=key (j - i) i (by omega);rw [show i+(j - i)=j by omega] at this;exact this
section
variable {prog:Program} {w:World} {A:Around} {E:Value->Shared->Prop} {s:Shared} {b₀:Array Keyed}
def AD {st:SortSt} {Q:Option Nat->SortSt->Prop} (hk:IntKeys b₀) (h1:1<=b₀.size) (hB:SBase b₀ st) (hs:SortedTo (arrOf st) b₀.size) (q:Q (some b₀.size) st):wpS (model prog w) A E s (countRun' 0 b₀.size) Q st:=by
 rw [countRun0_eq];refine wpS_bind (wpS_ascLoop hk (zav _) (zav 1) h1 hB (fun i j a b=>hs i j a (by omega)) fun n n1 n2 _ e=>?_);have en:n=b₀.size:=by
  rcases e with e | e
  ·exact e
  ·by_cases z:n=b₀.size
   ·exact z
   ·have:=hs (n - 1) n (by omega) (by omega);omega
 subst en
 dsimp only
 rw [if_pos (by simp)];exact wpS_pure q
def pP {st:SortSt} {n m:Nat} {Q:DescSt->SortSt->Prop} (hk:IntKeys b₀) (hm:m<=b₀.size) (h1:1<=n) (hn:n<=m) (hB:SBase b₀ st) (hf:Falls (arrOf st) m) (q:Q (none,m,0) st):wpS (model prog w) A E s (descLoop n m) Q st:=by
 unfold descLoop;refine wpS_forRange (I:=fun x c st'=>st'=st/\c=(none,x,0)) ?step ?fin ⟨rfl,rfl⟩
 case fin =>
  rintro c st' ⟨rfl,rfl⟩;rw [show max n m=m by omega];exact q
 case step =>
  rintro x c st' a b ⟨rfl,rfl⟩
  dsimp only
  refine wpS_bind (wpS_ltK hB hk (by omega) (by omega) ?_)
  have:=hf (x - 1) (by omega);rw [show x - 1+1=x by omega] at this;simp only [this,decide_true,if_true];rw [if_neg (by omega)];exact wpS_pure ⟨rfl,rfl⟩
def pO {st:SortSt} {Q:Option Nat->SortSt->Prop} (hk:IntKeys b₀) (h1:2<=b₀.size) (hB:SBase b₀ st) (hf:Falls (arrOf st) b₀.size) (q:∀ st',SBase b₀ st'->SortedTo (arrOf st') b₀.size->Q (some b₀.size) st'):wpS (model prog w) A E s (countRun' 0 b₀.size) Q st:=by
 rw [countRun0_eq];refine wpS_bind (wpS_ascLoop hk (zav _) (zav 1) (by omega) hB (fun i j a b=>by rw [show i=j by omega]; exact Int.le_refl _) fun n n1 n2 so e=>?_);have en:n=1:=by
  by_cases z:n=1
  ·exact z
  ·have:=so 0 1 (by omega) (by omega)
   have:K (arrOf st) 1 < K (arrOf st) 0:=hf 0 (by omega);omega
 subst en
 dsimp only
 rw [if_neg (by simp; omega),if_neg (by omega)];unfold descPart;refine wpS_bind (wpS_lift (wpAny_rule ⟨rfl,?_⟩));refine wpS_bind (pP hk (zav _) (by omega) h1 hB hf ?_)
 dsimp only
 rw [if_neg (by omega)];unfold tail3;have hz:b₀.size<=(arrOf st).size:=by rw [hB.size]; exact zav _
 refine wpS_bind (wpS_reverse ?_);have hB':SBase b₀ (setArr st (mirror (arrOf st) 0 b₀.size ((b₀.size - 0) / 2))):=hB.setArr (mirror_perm _ _ _ _);have hs':SortedTo (arrOf (setArr st (mirror (arrOf st) 0 b₀.size ((b₀.size - 0) / 2)))) b₀.size:=by
  intro i j a b;show K (mirror (arrOf st) 0 b₀.size ((b₀.size - 0) / 2)) i<=K (mirror (arrOf st) 0 b₀.size ((b₀.size - 0) / 2)) j;rw [K_mirror hz,K_mirror hz,if_pos (by omega),if_pos (by omega)];exact hf.nonInc _ _ (by omega) (by omega)
 refine wpS_bind (wpS_ascLoop hk (zav _) (by omega) (zav _) hB' hs' fun n n1 n2 _ _=>?_);have en:n=b₀.size:=by omega
 subst en;exact wpS_pure (q _ hB' hs')
def j8:∀ f n r,minRun' f n r<=n+r
 | 0,n,r=>zav _
 | f+1,n,r=>by
  rw [minRun'_succ];split
  ·exact zav _
  ·have:=j8 f (n / 2) (max r (n % 2))
   have:max r (n % 2)<=r+1:=Nat.max_le.mpr ⟨by omega,by omega⟩;omega
def jy (xs:Array Keyed):Prop:=SortedTo xs xs.size\/Falls xs xs.size
def pN {st:SortSt} {Q:Unit->SortSt->Prop} (hk:IntKeys b₀) (hB:SBase b₀ st) (ha:arrOf st=b₀) (h2:2<=b₀.size) (ho:jy b₀)
  (q:∀ st',(arrOf st').Perm b₀->failedOf st'=none->SortedTo (arrOf st') b₀.size->Q () st'):wpS (model prog w) A E s sortRuns' Q st:=by
 rw [sortRuns'_eq];refine wpS_bind (wpS_get ?_)
 dsimp only
 have ml:minRun' b₀.size b₀.size 0<=b₀.size:=j8 _ _ _;rw [hB.size];refine wpS_bind (wpS_mono (wpS_forRange
  (I:=fun x c st'=>(x=0/\c=(none,0)/\st'=st)\/(1<=x/\c=(none,b₀.size)/\SDone b₀ st'))
  (Q:=fun c st'=>c=(none,b₀.size)/\SDone b₀ st') ?step ?fin (.inl ⟨rfl,rfl,rfl⟩)) ?post)
 case fin =>
  rintro c st' (⟨z,_⟩ | ⟨_,a,b⟩)
  ·omega
  ·exact ⟨a,b⟩
 case step =>
  rintro x c st' _ _ (⟨rfl,rfl,rfl⟩ | ⟨_,rfl,D⟩)
  ·dsimp only
   rw [if_neg (by omega)];simp only [Nat.sub_zero,Nat.zero_add];have fin:∀ st2,SBase b₀ st2->SortedTo (arrOf st2) b₀.size->_:=fun st2 B2 s2=>B2.done s2;have go:wpS (model prog w) A E s (countRun' 0 b₀.size) (fun r st2=>r=some b₀.size/\SBase b₀ st2/\SortedTo (arrOf st2) b₀.size) st':=by
    rcases ho with ho | ho
    ·exact AD hk (by omega) hB (by rw [ha]; exact ho) ⟨rfl,hB,by rw [ha]; exact ho⟩
    ·exact pO hk h2 hB (by rw [ha]; exact ho) fun st2 B2 s2=>⟨rfl,B2,s2⟩
   refine wpS_bind (wpS_mono go ?_);rintro _ st2 ⟨rfl,B2,s2⟩
   dsimp only
   rw [if_neg (by omega)];refine wpS_bind (wpS_get ?_);have hb:(pendingOf st2).back?=none:=by rw [B2.pend]; rfl
   rw [hb]
   dsimp only
   exact wpS_bind (wpS_modify (wpS_pure (.inr ⟨by omega,rfl,fin st2 B2 s2⟩)))
  ·dsimp only
   rw [if_pos (zav _)];exact wpS_pure ⟨rfl,D⟩
 case post =>
  rintro c st' ⟨rfl,D⟩
  dsimp only
  refine wpS_bind (wpS_mono (wpS_forRange (I:=fun _ c st2=>st2=st'/\c=(none,())) (Q:=fun c st2=>st2=st'/\c=(none,())) ?_ (fun _ _ z=>z) ⟨rfl,rfl⟩) ?_)
  ·rintro x c st2 _ _ ⟨rfl,rfl⟩;refine wpS_bind (wpS_get ?_);rw [if_pos (by rw [D.2.2.1]; exact zav 1)];exact wpS_pure ⟨rfl,rfl⟩
  ·rintro c st2 ⟨rfl,rfl⟩;exact wpS_pure (q _ D.1 D.2.1 D.2.2.2)
end
section
variable {prog:Program} {w:World} {A:Around} {E:Value->Shared->Prop} {s:Shared}
def pK {a:Addr} {vs:List Value} {ns:List Int} {n:Nat} {P:Fin->Shared->Prop} (ho:s.heap.get? a=some (seqObj "list" vs.toArray n)) (hI:IntsAre vs ns) (hz:vs.length<=100000) (h1:vs.length < 64\/jy (pairsOf vs))
  (q:∀ (out:Array Value) (ns':List Int),IntsAre out.toList ns'->ns'.Perm ns->ns'.Pairwise (·<=·)->P (.done (.ret .none)) { s with heap:=sortedHeap s.heap a vs out }) :
  wpAny (model prog w) A (Builtin.«list.sort» ⟨[.ref a],[]⟩) P E s:=by
 rcases Nat.lt_or_ge vs.length 64 with lt | ge
 ·exact list_sort_tree ho hI lt q
 have o1:jy (pairsOf vs):=h1.resolve_left (by omega);obtain ⟨v₁,v₂,rest,rfl⟩:∃ x y r,vs=x :: y :: r:=by
  match vs,ge with
  | x :: y :: r,_=>exact ⟨x,y,r,rfl⟩
 rw [list_sort_plain];have la:a < s.heap.objs.size:=zal ho;refine zam (listItems_at ho rfl (zam (listUpdate_at ho rfl ?_)));obtain ⟨e1,ho1⟩:∃ e1,(s.heap.update a (Obj.mapSeq fun _=>#[])).get? a=some (seqObj "list" #[] e1):=⟨_,get?_update_seq ho (fun _=>#[])⟩;refine zam (seqEpoch_at ho1 rfl (zam (wpAny_newTuple (zam (wpAny_newList (wpAny_holding ?_))))));have ho6:(((s.heap.update a (Obj.mapSeq fun _=>#[])).push (seqObj "tuple" (v₁ :: v₂ :: rest).toArray 0)).push (seqObj "list" #[] 0)).get? a=some (seqObj "list" #[] e1):=by
  rw [Heap.get?_push_ne _ _ _ (zaw (by rw [size_push',Heap.size_update]; exact Nat.lt_succ_of_lt la)),Heap.get?_push_ne _ _ _ (zaw (by rw [Heap.size_update]; exact la)),ho1]
 show wpAny (model prog w) A _ P E { s with heap:=((s.heap.update a (Obj.mapSeq fun _=>#[])).push (seqObj "tuple" (v₁ :: v₂ :: rest).toArray 0)).push (seqObj "list" #[] 0) }
 dsimp only
 have two:¬ (v₁ :: v₂ :: rest).toArray.size < 2:=by simp
 rw [if_neg two,if_neg two,keyKind_ints hI];refine zam (zaR (zam (wpAny_mono (pN (b₀:=pairsOf (v₁ :: v₂ :: rest)) (st:=SortSt.mk' oneType' ((v₁ :: v₂ :: rest).toArray.zip (v₁ :: v₂ :: rest).toArray) #[] 7 none)
   (Q:=fun _ st'=>(arrOf st').Perm (pairsOf (v₁ :: v₂ :: rest))/\failedOf st'=none/\SortedTo (arrOf st') (pairsOf (v₁ :: v₂ :: rest)).size)
   hI.intKeys ⟨Array.Perm.refl _,rfl,rfl,rfl⟩ rfl (by rw [pairsOf_size]; simp) o1 fun st' b1 b2 b3=>⟨b1,b2,b3⟩) ?_ fun _ _ e=>e)))
 rintro ⟨⟨⟩,st'⟩ s' ⟨rfl,hp,hf,hs⟩
 dsimp only
 refine zam (seqEpoch_at ho6 rfl ?_);have hsz:((arrOf st').map (·.2)).size<=100000:=by
  rw [Array.size_map,hp.size_eq,pairsOf_size];exact hz
 refine zam (listUpdate_at ho6 rfl ?_ (hsz2:=zau hsz (by rw [sizeLine_eq]; decide)));rw [hf];simp only [bne_self_eq_false,Bool.false_eq_true,if_false];obtain ⟨ns',c1,c2,c3⟩:=sorted_out hI hp hs;exact zaR (q _ ns' c1 c2 c3)
end
end L2
namespace L2
open PySem PySem.Spec PyProof.Rows Builtin
def mq:∀ {vs:List Value} {ns:List Int},IntsAre vs ns->∀ i,(match vs[i]? with | some v=>numOf v | none=>0)=ns.getD i 0
 | _,_,.nil,i=>rfl
 | _,_,.cons n t h,0=>rfl
 | _,_,.cons n t h,i+1=>by
  have:=mq h i;simpa using this
def iA {vs:List Value} {ns:List Int} (h:IntsAre vs ns) (i:Nat):K (pairsOf vs) i=ns.getD i 0:=by
 rw [<- mq h i];have e:(pairsOf vs)[i]?=vs[i]?.map fun v=>(v,v):=by
  rw [<- Array.getElem?_toList,pairsOf_toList];clear h
  induction vs generalizing i with
  | nil=>rfl
  | cons v r ih =>
   cases i with
   | zero=>rfl
   | succ i=>simpa using ih i
 unfold K;rw [e];cases vs[i]? <;> rfl
def oneB:List Int->Bool
 | []=>true
 | x :: r=>go x r true || go x r false
where go (x:Int):List Int->Bool->Bool
 | [],_=>true
 | y :: r,true=>decide (x<=y) && go y r true
 | y :: r,false=>decide (y < x) && go y r false
def wG:∀ {r:List Int} {x:Int},oneB.go x r true=true->∀ i,i+1 < (x :: r).length->(x :: r).getD i 0<=(x :: r).getD (i+1) 0
 | [],x,_,i,h=>by simp at h
 | y :: r,x,g,i,h=>by
  have g':(decide (x<=y) && oneB.go y r true)=true:=g;rw [Bool.and_eq_true,decide_eq_true_iff] at g';cases i with
  | zero=>exact g'.1
  | succ i=>exact wG g'.2 i (by simpa using h)
def mE:∀ {r:List Int} {x:Int},oneB.go x r false=true->∀ i,i+1 < (x :: r).length->(x :: r).getD (i+1) 0 < (x :: r).getD i 0
 | [],x,_,i,h=>by simp at h
 | y :: r,x,g,i,h=>by
  have g':(decide (y < x) && oneB.go y r false)=true:=g;rw [Bool.and_eq_true,decide_eq_true_iff] at g';cases i with
  | zero=>exact g'.1
  | succ i=>exact mE g'.2 i (by simpa using h)
def xg {vs:List Value} {ns:List Int} (h:IntsAre vs ns) (o:oneB ns=true):jy (pairsOf vs):=by
 have hl:(pairsOf vs).size=ns.length:=by rw [pairsOf_size]; exact h.length
 cases ns with
 | nil =>
  refine .inl fun i j a b=>?_;rw [hl] at b;simp at b
 | cons x r =>
  have o':(oneB.go x r true || oneB.go x r false)=true:=o;rcases Bool.or_eq_true_iff.mp o' with o' | o'
  ·refine .inl ?_;have key:∀ d i,i+d < (x :: r).length->(x :: r).getD i 0<=(x :: r).getD (i+d) 0:=by
    intro d
    induction d with
    | zero=>intro i _; exact Int.le_refl _
    | succ d ih =>
     intro i hi;exact Int.le_trans (ih i (by omega)) (wG o' (i+d) (by omega))
   intro i j a b;rw [iA h,iA h]
   have:=key (j - i) i (by omega);rw [show i+(j - i)=j by omega] at this;exact this
  ·refine .inr fun i b=>?_;rw [iA h,iA h];exact mE o' i (by omega)
def cO (ns:List Int):Prop:=ns.length < 64\/(oneB ns=true/\ns.length<=5000)
instance (ns:List Int):Decidable (cO ns):=by unfold cO; exact inferInstance
section
variable {X:Cx} {K:PySem.W.Frag} {O:AS} {H:Hp}
def jS (hc:X.calm=true):CallR X (.builtin "sorted") (fun xs H Q=>∃ a kvs ns,xs=[.ref a]/\H a=some (.dK kvs)/\(kvs.map fun q=>kV q.1)=ns.map V.int/\cO ns/\∀ l,H l=none->Q (.ref l) (upd H l (.lst ((bL ns).map V.int)))):=by
 intro pins s σ H xs us Q I r h;obtain ⟨a,kvs,ns,rfl,ha,ek,cs,q⟩:=h;obtain ⟨u,rfl,ru⟩:=eT r;cases ru;obtain ⟨z,hd,vs,rel,dd⟩:=kF I.hok ha;obtain ⟨o,es,ep,dr⟩:=dd;have hl:kvs.length=vs.length:=rel.length;have hn:ns.length=kvs.length:=by have:=congrArg List.length ek; simpa using this.symm
 have n5:ns.length<=5000:=by
  rcases cs with c | c
  ·omega
  ·exact c.2
 refine Calls.call_function_entry kind_sorted plain_sorted entry_sorted (args_sorted1 _) ?_;unfold Builtin.«sorted»;refine zam (m:=checkCount "sorted" 1 1 _) (zaR ?_);refine zam (PySem.W.kdu_collect (PySem.W.kdl_dict (knd:=aM X.prog X.w) (kvs:=vs) (ep:=ep) hd) (I.ok.hd hc) ⟨o,es,dr⟩ (by omega) fun h1 tk acc hk hi=>?_);have la:acc.toList.length=vs.length:=by rw [zaW]; exact hi.1
 have rv:Vals (ns.map V.int) acc.toList:=by
  rw [<- ek];exact b8 (by rw [zad]; omega) fun i x v e1 e2=>by
   obtain ⟨k,y,hky,hv⟩:=hi.2 i v (by simpa using e2);rw [zao] at e1;obtain ⟨p,hp,rfl⟩:=zab.mp e1;have hkeys:=congrArg (fun l=>l[i]?) rel.keys;simp only [zao,hp,hky,Option.map_some,Option.some.injEq] at hkeys;rw [hkeys];exact oB hv
 have hI:IntsAre acc.toList ns:=nv rv;have l5:acc.toList.length<=5000:=by omega
 refine zam (wpAny_newList ?_ (zau l5 (by decide)));have hoL:(h1.push (seqObj "list" acc.toList.toArray 0)).get? h1.objs.size=some (seqObj "list" acc.toList.toArray 0):=zan _ rfl;refine zam (wpAny_holding (wpAny_call_entry slot_list_sort ⟨_,hoL,rfl⟩ entry_list_sort (pK hoL hI (by omega) (cs.imp (fun c=>by omega) fun c=>xg hI c.1) fun out ns' a1 a2 a3=>⟨_,rfl,?_⟩) (args_list_sort _)));refine zaR ⟨_,rfl,?_⟩;have e1:ns'=bL ns:=fS (a2.trans (bE ns).symm) a3 (bN ns);subst e1;obtain ⟨e,he⟩:=sortedHeap_at (out:=out) hoL;have I1:=I.kept (t':=tk) hk;have k2:∀ b o,h1.get? b=some o->(sortedHeap (h1.push (seqObj "list" acc.toList.toArray 0)) h1.objs.size acc.toList out).get? b=some o:=fun b o q=>by
  have hb:=zal q;rw [sortedHeap_old (zaw hb) (by rw [size_push']; exact Nat.lt_succ_of_lt hb)];exact zaf _ q
 have hsl:(bL ns).length=ns.length:=(bE ns).length_eq;refine ⟨.ref _,_,I1.laid (a:=h1.objs.size) (o:=.lst ((bL ns).map V.int)) (t':=tk) k2 (zav _) ⟨by rw [zad,hsl]; omega,out.toList,e,kK a1,?_⟩,rfl,q _ (I1.hok.fresh (zav _))⟩;rw [show out.toList.toArray=out from rfl];exact he
def i5:List D->Option D
 | [.dict ks]=>if noT ks=true then (dk (ks.map fun q=>q.1)).bind fun ns=>grd (cO ns) (.list ((bL ns).map .int)) else none
 | _=>none
def di {O:AS} {H:Hp}:∀ l:List Int,Ows K O H (l.map .int) 0 (l.map V.int) NoA
 | []=>rfl
 | n :: r=>⟨.int n,r.map V.int,NoA,NoA,rfl,fun _ z=>z,fun _ z=>z,fun _ z=>z.elim,rfl,di r⟩
def lr (hK:X.K=K) (hc:X.calm=true):CallR X (.builtin "sorted") (rFn K i5 1):=by
 subst hK;refine (jS hc).imp fun xs H Q ⟨O,as,t,oa,hd,hg,k⟩=>?_
 match as,hg with
 | [.dict ks],hg =>
  by_cases c:noT ks=true
  ·have hg':((dk (ks.map fun q=>q.1)).bind fun ns=>grd (cO ns) (.list ((bL ns).map .int)))=some t:=by rw [<- hg]; exact (if_pos c).symm
   obtain ⟨ns,h1,h2⟩:=zaa.mp hg';obtain ⟨cs,rfl⟩:=bQ h2;obtain ⟨v,rfl,o⟩:=oa.one;obtain ⟨a,vs,rfl,ha,ow⟩:=o.dict0 c;exact ⟨a,vs,ns,rfl,ha,kW (gL ow) h1,cs,fun l hl=>k _ _ _ (bc hl hd (di (K:=X.K) _)).1 (bc hl hd (di (K:=X.K) _)).2⟩
  ·exact absurd (show (none:Option D)=some t by rw [<- hg]; exact (if_neg c).symm) (by simp)
end
end L2
namespace L2
open PySem PySem.Spec PyProof.Rows
def fG:List D->Option (List (Int × Bool))
 | []=>some []
 | .tuple [.int k,.bool v] :: r=>(fG r).map ((k,v) :: ·)
 | _ :: _=>none
def iL (l:List (Int × Bool)) (k:Int) (v:Bool):List (Int × Bool):=if l.any (fun q=>decide (q.1=k)) then l.map (fun q=>if q.1=k then (q.1,v) else q) else l++[(k,v)]
def io (ps l:List (Int × Bool)):List (Int × Bool):=ps.foldl (fun l q=>iL l q.1 q.2) l
def lz:List D->Option D
 | [.list ts]=>(fG ts).map fun ps=>.dict ((io ps []).map fun q=>(.int q.1,.bool q.2))
 | _=>none
def vB (l:List (Int × Bool)):List (Key × V):=l.map fun q=>(.inl q.1,.bl q.2)
def wV (l:List (Int × Bool)) (k:Int) (v:Bool):bp (vB l) (.inl k) (.bl v)=vB (iL l k v):=by
 have e:((vB l).any fun kv=>decide (kv.1=(Sum.inl k:Key)))=l.any fun q=>decide (q.1=k):=by
  unfold vB;rw [List.any_map];congr 1
  funext q
  show decide ((Sum.inl q.1:Key)=Sum.inl k)=_;rw [ld];rfl
 unfold bp iL;rw [e];by_cases h:(l.any fun q=>decide (q.1=k))=true
 ·rw [if_pos h,if_pos h];unfold vB;rw [zaP,zaP];refine List.map_congr_left fun q _=>?_;show (if (Sum.inl q.1:Key)=Sum.inl k then ((Sum.inl q.1:Key),V.bl v) else (.inl q.1,.bl q.2))=(fun q:Int × Bool=>((Sum.inl q.1:Key),V.bl q.2)) (if q.1=k then (q.1,v) else q);by_cases hk:q.1=k
  ·rw [if_pos (by rw [hk]),if_pos hk]
  ·rw [if_neg (fun z=>hk (Sum.inl.inj z)),if_neg hk]
 ·rw [if_neg h,if_neg h];unfold vB;rw [zaC];rfl
def j6:∀ (ps l:List (Int × Bool)),dh (vB ps) (vB l)=vB (io ps l)
 | [],l=>rfl
 | q :: ps,l=>by
  show dh (vB ps) (bp (vB l) (.inl q.1) (.bl q.2))=vB (io ps (iL l q.1 q.2));rw [wV,j6]
section
variable {X:Cx} {K:PySem.W.Frag} {O:AS} {H:Hp}
def wv {d:Nat}:∀ l:List (Int × Bool),Owd K O H (l.map fun q=>(.int q.1,.bool q.2)) d (vB l) NoA
 | []=>rfl
 | q :: l=>⟨.inl q.1,.bl q.2,vB l,NoA,NoA,rfl,rfl,fun _ z=>z,fun _ z=>z,fun _ z=>z.elim,rfl,wv l⟩
def i9:∀ {ts:List D} {vs:List V} {ps:List (Int × Bool)},Ows K O H ts 0 vs NoA->fG ts=some ps->∃ as:List Addr,vs=as.map .ref/\Paired (fun a q=>SqT K H a [kV q.1,q.2]) as (vB ps)
 | [],_,_,h,hb=>by cases hb; cases (show _=[] from h); exact ⟨[],rfl,.nil⟩
 | t :: r,_,_,h,hb=>by
  obtain ⟨v,w,F1,F2,e,_,_,_,h4,h5⟩:=h
  match t,hb with
  | .tuple [.int k,.bool n],hb =>
   obtain ⟨ps',h6,h7⟩:=zab.mp hb;subst e h7;obtain ⟨as,rfl,pr⟩:=i9 (Ows.any0 r h5) h6;obtain ⟨p,us,rfl,fz,ow⟩:=(Ow.any0 _ h4).tup0;obtain ⟨v1,w1,_,_,rfl,_,_,_,o1,ow⟩:=ow;obtain ⟨v2,w2,_,_,rfl,_,_,_,o2,ow⟩:=ow;cases (show w2=[] from ow);cases (show v1=.int k from o1);cases (show v2=.bl n from o2);exact ⟨p :: as,rfl,.cons fz.sq pr⟩
def qw (hK:X.K=K) (hc:X.calm=true):CallR X (.type "dict") (rFn K lz 1):=by
 subst hK;refine (nF hc).imp fun xs H Q ⟨O,as,t,oa,hd,hg,k⟩=>?_
 match as,hg with
 | [.list ts],hg =>
  obtain ⟨ps,h1,rfl⟩:=zab.mp hg;obtain ⟨v,rfl,o⟩:=oa.one;obtain ⟨a,vs,rfl,fz,w⟩:=o.lst0;obtain ⟨bs,rfl,pr⟩:=i9 w h1;refine ⟨a,bs,vB ps,rfl,fz.sq,pr,fun l hl=>?_⟩;have e:dh (vB ps) []=vB (io ps []):=j6 ps [];rw [e];exact k (.ref l) _ _ (bq hl) ⟨l,_,rfl,.inr (.inl ⟨by decide,aF,rfl,NoA,fun _ z=>z.elim,wv _⟩)⟩
end
def jP (i:Nat):ME:=fun en=>match (en[i]?).join with
 | some (.dict ks)=>some (.list (ks.map fun q=>q.1),en)
 | _=>none
section
variable {X:Cx} {K:PySem.W.Frag} {p:Bool} {ds:List Nat} {px py pos:Pos} {i:Nat} {σ:St} {H:Hp} {Q:VK}
def Di (h0:ds[i]?=some 1) (h:tF K p ds ds 1 (jP i) σ H Q):tCB (fun xs H Q=>∃ a kvs,xs=[.ref a]/\H a=some (.dK kvs)/\∀ l,H l=none->Q (.ref l) (upd H l (.lst (kvs.map fun q=>kV q.1)))) (ik (cR i) kM) σ H Q:=by
 obtain ⟨Ox,en,R,t,en',e,hf,k⟩:=h;unfold jP at hf;split at hf
 case h_2=>cases hf
 next ks g0 =>
 cases hf;obtain ⟨v,d0,a1,a2,a3⟩:=e.at_ i _ (aI g0);rw [h0] at a2;cases a2;obtain ⟨l0,vs,el,hl,_,F',_,ow⟩:=a3.dict1 (by decide);refine ⟨v,a1,l0,vs,by rw [el],hl,fun l hn=>?_⟩;have w:=bc hn e.dom (gL ow);exact k _ _ R _ (Post.new e w.1.1 w.1.2) (kH ▸ w.2)
def BY {x:Str} (hK:X.K=K) (hc:X.calm=true) (hg:Gl X "list") (hm:X.mg "list"=none) (hN:X.N[i]?=some x) (hv:Vis X.env.scope x) (h0:ds[i]?=some 1) (hd:(x == ("__debug__" : Str))=false) (hcd:(x == ("__classdict__" : Str))=false) :
  PE X (.Call (.Name "list" px) [.Name x py] [] pos) (tF K p ds ds 1 (jP i)):=by
 subst hK;exact (j7 (lF hc) hg hm (by decide +kernel) (cV (bG hN hv hd hcd) pa_nil)).imp fun _ _ _=>Di h0
def qE {x:Str} (hK:X.K=K) (hc:X.calm=true) (hg:Gl X "list") (hm:X.mg "list"=none) (hN:X.N[i]?=some x) (hv:Vis X.env.scope x) (h0:ds[i]?=some 1) (hd:(x == ("__debug__" : Str))=false) (hcd:(x == ("__classdict__" : Str))=false) :
  QE X (.Call (.Name "list" px) [.Name x py] [] pos) (tF K p ds ds 1 (jP i)):=⟨BY hK hc hg hm hN hv h0 hd hcd⟩
end
def gW (j:Nat) (b:MS):List PyData->En->Option Fl
 | [],en=>some (.nx en)
 | t :: ts,en=>(b (en.set j (some t))).bind fun fl=>match fl with
  | .nx en2=>gW j b ts (en2.set j none)
  | .ct en2=>gW j b ts (en2.set j none)
  | .rt r en2=>some (.rt r en2)
def im (i j:Nat) (b:MS):MS:=fun en=>match (en[i]?).join with
 | some (.list ts)=>gW j b ts ((en.set i none).set j none)
 | _=>none
section
variable {K:PySem.W.Frag} {J:Jd} {ds ds1:List Nat} {Ox Ox':AS} {H:Hp} {σ:St} {en:En} {R:Nat->AS} {i j:Nat} {m:MS} {D:Ends}
def EnvOk.forget (e:EnvOk K ds Ox H σ en R) (j:Nat):EnvOk K ds Ox H σ (en.set j none) (fun s b=>s≠j/\R s b):=by
 have sub:∀ a,Own (fun s b=>s≠j/\R s b) Ox a->Own R Ox a:=fun a z=>z.imp (fun ⟨s,z⟩=>⟨s,z.2⟩) id;refine ⟨fun s t h=>?_,fun s s' a z z'=>e.dj s s' a z.2 z'.2,fun s a z=>e.dx s a z.2,fun a z=>e.dom a (sub a z),by rw [zaT]; exact e.l1,e.l2⟩;by_cases hs:s=j
 ·subst hs;by_cases hl:s < en.length
  ·rw [zaN hl] at h;cases h
  ·rw [List.getElem?_eq_none (by rw [zaT]; omega)] at h;cases h
 ·rw [zaM (Ne.symm hs)] at h;obtain ⟨v,d,g1,g2,g3⟩:=e.at_ s t h;exact ⟨v,d,g1,g2,Ow.grow sub t (fun b z=>⟨hs,z⟩) g3⟩
def EnvOk.deep (e:EnvOk K ds Ox H σ en R) (hj:(en[j]?).join=none) (d:Nat):EnvOk K (ds.set j d) Ox H σ en R:=by
 refine ⟨fun s t h=>?_,e.dj,e.dx,e.dom,e.l1,by rw [zaT]; exact e.l2⟩;obtain ⟨v,d',g1,g2,g3⟩:=e.at_ s t h;by_cases hs:s=j
 ·subst hs;rw [h] at hj;cases hj
 ·exact ⟨v,d',g1,by rw [zaM (Ne.symm hs)]; exact g2,g3⟩
def EnvOk.hideS (e:EnvOk K ds Ox H σ en R) (i:Nat) {S:AS} (hS:∀ a,S a->R i a):EnvOk K ds (U S Ox) H σ (en.set i none) (fun s b=>s≠i/\R s b):=by
 have sub:∀ a,Own (fun s b=>s≠i/\R s b) (U S Ox) a->Own R Ox a:=fun a z=>by
  rcases z with ⟨s,z⟩ | z | z
  ·exact .inl ⟨s,z.2⟩
  ·exact .inl ⟨i,hS a z⟩
  ·exact .inr z
 refine ⟨fun s t h=>?_,fun s s' a z z'=>e.dj s s' a z.2 z'.2,fun s a z z2=>?_,fun a z=>e.dom a (sub a z),by rw [zaT]; exact e.l1,e.l2⟩
 ·by_cases hs:s=i
  ·subst hs;by_cases hl:s < en.length
   ·rw [zaN hl] at h;cases h
   ·rw [List.getElem?_eq_none (by rw [zaT]; omega)] at h;cases h
  ·rw [zaM (Ne.symm hs)] at h;obtain ⟨v,d,g1,g2,g3⟩:=e.at_ s t h;exact ⟨v,d,g1,g2,Ow.grow sub t (fun b z=>⟨hs,z⟩) g3⟩
 ·rcases z2 with z2 | z2
  ·exact z.1 (e.dj s i a z.2 (hS a z2))
  ·exact e.dx s a z.2 z2
def kt {en:En} {j:Nat}:((en.set j none)[j]?).join=none:=by
 by_cases h:j < en.length
 ·rw [zaN h]; rfl
 ·rw [List.getElem?_eq_none (by rw [zaT]; omega)]; rfl
def Cu (K:PySem.W.Frag) (J:Jd) (ds1:List Nat) (Ox:AS) (σ:St) (H:Hp) (R:Nat->AS) (i j:Nat) (m:MS) (a:Addr) (vs:List V) (ts:List PyData) (fl:Fl) (n:Nat) (σ':St) (H':Hp):Prop:=∃ (en':En) (R':Nat->AS) (G:AS),EnvOk K ds1 (U (U G (fun b=>b=a)) Ox) H' σ' en' R'/\Ows K (Own R' (U (U G (fun b=>b=a)) Ox)) H' (ts.drop n) 1 (vs.drop n) G/\H' a=some (.lst vs)/\(∀ b,G b->R i b/\b≠a)/\(∀ b o,H b=some o->(∀ s,¬ R s b)->H' b=some o)/\(∀ b,(∃ s,R' s b)->(∃ s,R s b)\/H b=none)/\(∀ b o,H b=some o->∃ o',H' b=some o')/\(∀ s∈J.lk,σ'[s]?=σ[s]?)/\gW j m (ts.drop n) en'=some fl
def xF (hi:ds[i]?=some 2) (hd:ds.set j 1=ds1) (hl:j < ds.length) (hk:j ∉ J.lk) (h:tFS K J ds ds1 (im i j m) D σ H):pJ (wF K (cR i)) (iu j) (tFS K { J with dsl:=ds1 } ds1 ds1 m) D σ H:=by
 obtain ⟨Ox,en,R,fl,e,hf,k⟩:=h;unfold im at hf;split at hf
 case h_2=>cases hf
 next ts g0 =>
 obtain ⟨v,d0,a1,a2,a3⟩:=e.at_ i _ (aI g0);rw [hi] at a2;cases a2;obtain ⟨a,vs,rfl,⟨z,_⟩ | ⟨_,ha,Fa,F,hF,ow⟩⟩:=a3
 ·cases z
 have sq:SqL K H a vs:=.inl (.inl ha);refine ⟨.ref a,a1,a,rfl,⟨vs,sq⟩,?_⟩;have hds:ds1.set j 1=ds1:=by rw [<- hd,List.set_set]
 have hl1:j < ds1.length:=by rw [<- hd,zaT]; exact hl
 have vl:vs.length=ts.length:=ow.len;have S0:∀ b,U F (fun b=>b=a) b->R i b:=fun b z=>z.elim (fun z=>(hF b z).1) fun z=>z ▸ Fa;have e0:=((e.hideS i S0).forget j).deep kt 1;rw [hd] at e0;refine qv (K:=K) (a:=a) (xs:=vs) (Cu K J ds1 Ox σ H R i j m a vs ts fl)
  ⟨_,_,F,e0,?_,ha,hF,fun b o q _=>q,fun b ⟨s,z⟩=>.inl ⟨s,z.2.2⟩,fun b o q=>⟨o,q⟩,fun _ _=>rfl,hf⟩ (fun n σ' H' _ ⟨_,_,_,_,_,q,_⟩=>.inl (.inl q)) ?_ ?_
 ·refine Ows.grow (fun b z=>?_) ts (fun _ z=>z) ow;rcases z with ⟨s,z⟩ | z | z
  ·exact .inl ⟨s,z.2.2⟩
  ·exact .inl ⟨i,S0 b z⟩
  ·exact .inr z
 ·rintro n x σ' H' hx ⟨en',R',G,E,ro,qa,hG,kp,on,dm,lk,run⟩;have hn:n < ts.length:=by rw [<- vl]; exact (zah.mp hx).1
  have ht:ts.drop n=ts[n] :: ts.drop (n+1):=List.drop_eq_getElem_cons hn;have hv:vs.drop n=x :: vs.drop (n+1):=by
   obtain ⟨h1,h2⟩:=zah.mp hx;rw [<- h2];exact List.drop_eq_getElem_cons h1
  rw [ht] at run ro;rw [hv] at ro;obtain ⟨x',r,F1,F2,ee,f1,f2,f12,o1,or⟩:=ro;cases ee;obtain ⟨fl2,h4,hr⟩:=zaa.mp run;have hO:∀ b,Own R' (U F1 (U (U F2 (fun b=>b=a)) Ox)) b->Own R' (U (U G (fun b=>b=a)) Ox) b:=fun b z=>by
   rcases z with z | z | (z | z) | z
   ·exact .inl z
   ·exact .inr (.inl (.inl (f1 b z)))
   ·exact .inr (.inl (.inl (f2 b z)))
   ·exact .inr (.inl (.inr z))
   ·exact .inr (.inr z)
  have E1:EnvOk K ds1 (U F1 (U (U F2 (fun b=>b=a)) Ox)) H' σ' en' R':=E.fewer fun b z=>by
   rcases z with z | (z | z) | z
   ·exact .inl (.inl (f1 b z))
   ·exact .inl (.inl (f2 b z))
   ·exact .inl (.inr z)
   ·exact .inr z
  have P1:Post K false ds1 (U (U F2 (fun b=>b=a)) Ox) σ' H' en' (fun s b=>R' s b\/(s=j/\F1 b)) en' H' R' F1:=by
   refine ⟨E1,fun b z z2=>?_,fun b o q _=>q,fun b z=>?_,fun b o q=>⟨o,q⟩,fun z=>nomatch z⟩
   ·rcases z2 with (z2 | z2) | z2
    ·exact f12 b z z2
    ·exact (hG b (f1 b z)).2 z2
    ·exact e.dx i b (hG b (f1 b z)).1 z2
   ·rcases z with z | ⟨s,z⟩
    ·exact .inl ⟨j,.inr ⟨rfl,z⟩⟩
    ·exact .inl ⟨s,.inl z⟩
  have P2:=PostS.store (lk:=J.lk) P1 (Ow.grow hO _ (fun _ z=>z) o1) hl1 hk;rw [hds] at P2;have nR:∀ b,(∃ s,(R' s b\/(s=j/\F1 b)))->(∃ s,R s b)\/H b=none:=fun b ⟨s,z⟩=>by
   rcases z with z | ⟨_,z⟩
   ·exact on b ⟨s,z⟩
   ·exact .inl ⟨i,(hG b (f1 b z)).1⟩
  have nn:∀ b,H' b=none->H b=none:=fun b z=>by
   cases q:H b with
   | none=>rfl
   | some o =>
    obtain ⟨o',q'⟩:=dm b o q;rw [z] at q';cases q'
  have st:∀ {ds2:List Nat} {σ5:St} {en5:En} {H5:Hp} {R5:Nat->AS} {F5:AS},PostS K J.lk ds2 (U (U F2 (fun b=>b=a)) Ox) (σ'.set j (some x)) H' (fun s=>if s=j then F1 else R' s) σ5 en5 H5 R5 F5->PostS K J.lk ds2 Ox σ H R σ5 en5 H5 R5 F5:=fun P5=>by
   have PP:=P2.after P5;refine ⟨PP.env.fewer fun b z=>z.imp id .inr,fun b z z2=>PP.fx b z (.inr z2),fun b o q nr=>?_,fun b z=>?_,fun b o q=>?_,fun s hs=>(PP.lk s hs).trans (lk s hs)⟩
   ·refine PP.keep b o (kp b o q nr) fun s z=>?_;rcases nR b ⟨s,z⟩ with ⟨s,z⟩ | z
    ·exact nr s z
    ·rw [q] at z; cases z
   ·rcases PP.own b z with z | z
    ·exact nR b z
    ·exact .inr (nn b z)
   ·obtain ⟨o',q'⟩:=dm b o q;exact PP.dom b o' q'
  have go:∀ {σ5:St} {en5:En} {H5:Hp} {R5:Nat->AS},PostS K J.lk ds1 (U (U F2 (fun b=>b=a)) Ox) (σ'.set j (some x)) H' (fun s=>if s=j then F1 else R' s) σ5 en5 H5 R5 NoA->gW j m (ts.drop (n+1)) (en5.set j none)=some fl->Cu K J ds1 Ox σ H R i j m a vs ts fl (n+1) σ5 H5:=fun {σ5 en5 H5 R5} P5 hr=>by
   have PP:=P2.after P5;have Q5:=st P5;have kh:∀ b o,H' b=some o->(F2 b\/b=a)->H5 b=some o:=fun b o q z=>PP.keep b o q fun s w=>by
    rcases w with w | ⟨_,w⟩
    ·exact E.dx s b w (.inl (z.imp (f2 b) id))
    ·rcases z with z | z
     ·exact f12 b w z
     ·exact (hG b (f1 b w)).2 z
   exact ⟨en5.set j none,fun s b=>s≠j/\R5 s b,F2,PP.env0.forget j,Ows.mv (G:=F2) ⟨fun b o q z=>by
     rcases z with z | z
     ·exact PP.keep b o q fun s w=>z (w.elim (fun w=>.inl ⟨s,w⟩) fun w=>.inr (.inl (.inl (f1 b w.2))))
     ·exact kh b o q (.inl z),fun b z=>by
     rcases z with ⟨s,z⟩ | z
     ·rcases PP.own b (.inr ⟨s,z.2⟩) with ⟨s,w⟩ | w
      ·exact .inl (w.elim (fun w=>.inl ⟨s,w⟩) fun w=>.inr (.inl (.inl (f1 b w.2))))
      ·exact .inr w
     ·exact .inl (.inr (z.imp (fun z=>z.imp (f2 b) id) id))⟩ _ (fun _ z=>z) or,kh a _ qa (.inr rfl),fun b z=>hG b (f2 b z),Q5.keep,fun b ⟨s,z⟩=>Q5.own b (.inr ⟨s,z.2⟩),Q5.dom,Q5.lk,hr⟩
  refine ⟨_,en'.set j (some ts[n]),_,fl2,P2.env0,h4,?_⟩;cases fl2 with
  | nx en5=>exact fun σ5 H5 R5 P5=>go P5 hr
  | ct en5=>exact fun σ5 H5 R5 P5=>go P5 hr
  | rt t en5 =>
   cases hr;exact fun v σ5 H5 R5 F5 P5 o=>k v σ5 H5 R5 F5 (st P5) (Ow.grow (fun b z=>z.imp id fun z=>z.imp id .inr) _ (fun _ z=>z) o)
 ·rintro σ' H' ⟨en',R',G,E,ro,qa,hG,kp,on,dm,lk,run⟩;rw [vl,List.drop_length] at run;cases run;exact k σ' H' R' ⟨by rw [eJ]; exact E.fewer fun _ z=>.inr z,fun _ z=>z.elim,kp,fun b z=>on b (z.elim (fun z=>z.elim) id),dm,lk⟩
end
section
variable {X:Cx} {K:PySem.W.Frag} {J:Jd} {ds ds1:List Nat} {i j:Nat} {m:MS} {body:List Stmt} {px py pos:Pos}
def nw {x y:Str} (hK:X.K=K) (hc:X.calm=true) (hN:X.N[i]?=some x) (hv:Vis X.env.scope x) (h2:ds[i]?=some 2) (hNd:X.N.Nodup) (hj:X.N[j]?=some y) (hy:Loc X.env.scope y) (hd:ds.set j 1=ds1) (hl:j < ds.length) (hk:j ∉ J.lk) (hf:X.fn y=true\/X.env.scope.names.lookup y=some .local) (hb:QSs X body (tFS K { J with dsl:=ds1 } ds1 ds1 m)) (hp:PassesOwn (model X.prog X.w) X.A X.env X.xe) (hdb:(x == ("__debug__" : Str))=false) (hcd:(x == ("__classdict__" : Str))=false) :
  QS X (.For (.Name y py) (.Name x px) body [] pos) (tFS K J ds ds1 (im i j m)):=by
 subst hK;exact ⟨(nV hp hc (w8 (bG hN hv hdb hcd)) (mn hNd hj hy hf) hb.h (fun _=>rfl)).imp fun _ _ _=>xF h2 hd hl hk⟩
end
def gI (n:Nat):List V:=(List.range n).map fun k:Nat=>V.int (k:Int)
def tLR (ta:TA):TE:=fun σ H Q=>ta σ H fun vs H1=>∃ j:Int,vs=[.int j]/\-5000<=j/\j<=5000/\∀ l,H1 l=none->Q (.ref l) (upd H1 l (.lst (gI j.toNat)))
section
variable {X:Cx}
def xa {e:Expr} {ta:TA} {p1 p2 q1 pos:Pos} (hc:X.calm=true) (hgl:Gl X "list") (hml:X.mg "list"=none) (hg:Gl X "range") (hm:X.mg "range"=none) (ha:PA X [e] ta) (hs:starEach [e] X.env=[(false,eval e X.env)]:=by rfl) :
  PE X (.Call (.Name "list" p1) [.Call (.Name "range" p2) [e] [] q1] [] pos) (tLR ta):=by
 intro pins s σ H Q I h;refine wpAny_Call_Name_kw (eB I hgl hml (show bootBuiltins "list"=some (.type "list") by decide +kernel) (PyProof.Rows.callWith_type1 ?_ rfl rfl) (by decide) (by decide));show wpAny _ _ (spliced ((false,eval (.Call (.Name "range" p2) [e] [] q1) X.env) :: backTo pos (starEach [] X.env))) _ _ s;refine Calls.spliced_cons (Call_ (eB I hg hm boot_range (PyProof.Rows.callWith_type1 (thn (ha q1 pins s σ H _ I h) fun us s1 ⟨vs,H1,I1,r1,q1⟩=>?_) hs rfl)));obtain ⟨j,e,b1,b2,q⟩:=q1;subst e;cases r1 with
 | cons r rr =>
  cases rr;obtain ⟨t,rfl⟩:=r;refine call_range_1 (Calls.spliced_nil ?_);have I2:Inv X pins σ H1 { s1 with heap:=s1.heap.push { cls:=.type "range",data:=.fields #[.int 0 s1.toks,.int j t,.int 1 (s1.toks+1)] },toks:=s1.toks+1+1 }:=I1.kept fun b o e=>zaf _ e;refine call_list_range (n:=j.toNat) (I2.ok.hd hc) (IsRange.new ..) (small_one (by omega) (by omega) (by omega) (by omega)) (by rw [rangeSize_one]; split <;> omega) (by omega) fun h' tk acc c' hk ho hi=>?_;have rv:Vals (gI j.toNat) acc.toList:=b8 (by unfold gI; rw [zad,List.length_range,zaW]; exact hi.1.symm) fun i x v e1 e2=>by
   obtain ⟨t',rfl⟩:=hi.2 i v (by simpa using e2);unfold gI at e1;rw [zao] at e1;obtain ⟨k,hk,rfl⟩:=zab.mp e1;have ek:k=i:=by
    obtain ⟨h1,h2⟩:=zah.mp hk;rw [<- h2,List.getElem_range]
   subst ek;exact ⟨t',by rw [Int.mul_one,Int.zero_add]⟩
  exact ⟨.ref _,_,I2.laid (t':=tk) (o:=.lst (gI j.toNat)) hk (zav _) ⟨by unfold gI; rw [zad,List.length_range]; exact zau (show j.toNat<=5000 by omega) (by decide),acc.toList,c',rv,by simpa using ho⟩,rfl,q _ I2.fresh⟩
end
def jc:List D->Option D
 | [.int j]=>grd (-5000<=j/\j<=5000) (.list ((List.range j.toNat).map fun k:Nat=>.int (k:Int)))
 | _=>none
section
variable {X:Cx} {K:PySem.W.Frag} {p:Bool} {ds ds1:List Nat} {sh:List (Nat ⊕ Nat)} {fa:MA} {σ:St} {H:Hp} {Q:VK}
def B9 (hs:bm 0 sh=true) (h:tF K p ds ds1 1 (eN jc fa) σ H Q):tLR (tFA K p ds ds1 sh fa) σ H Q:=by
 obtain ⟨Ox,en,R,as,en1,e,h1,k⟩:=lw hs h;refine ⟨Ox,en,R,as,en1,e,h1,fun vs H1 R1 F P o=>?_⟩;obtain ⟨O,ts,t,oa,hd,hg,k2⟩:=k vs H1 R1 F P o
 match ts,hg with
 | [.int j],hg =>
  obtain ⟨c,rfl⟩:=bQ hg;obtain ⟨v,rfl,ov⟩:=oa.one;have ev:v=.int j:=ov;subst ev;refine ⟨j,rfl,c.1,c.2,fun l hl=>?_⟩;have e1:gI j.toNat=((List.range j.toNat).map fun k:Nat=>(k:Int)).map V.int:=by unfold gI; rw [zaP]; rfl
  have e2:((List.range j.toNat).map fun k:Nat=>PyData.int (k:Int))=((List.range j.toNat).map fun k:Nat=>(k:Int)).map .int:=by rw [zaP]; rfl
  rw [e1];rw [e2] at k2;exact k2 _ _ _ (bc hl hd (di (K:=K) _)).1 (bc hl hd (di (K:=K) _)).2
def kc {e:Expr} {p1 p2 q1 pos:Pos} (hc:X.calm=true) (hgl:Gl X "list") (hml:X.mg "list"=none) (hg:Gl X "range") (hm:X.mg "range"=none) (ha:QA X [e] (tFA K p ds ds1 sh fa)) (hsh:bm 0 sh=true) (hs:aG e=true) :
  QE X (.Call (.Name "list" p1) [.Call (.Name "range" p2) [e] [] q1] [] pos) (tF K p ds ds1 1 (eN jc fa)):=⟨(xa hc hgl hml hg hm ha.h (br hs)).imp fun _ _ _=>B9 hsh⟩
end
end L2
namespace L2
namespace Pen3
open PySem L2
def sl1000:1000<=sizeLine:=by rw [sizeLine_eq]; decide
def bu:MS:=(ak (ay 2 (eC (.int 0)))
 (ak (sIf (tV (e2 gtI (eN bC (af (ae 0) ai)) (eC (.int 0)))) (ay 2 (e2 ixA (ae 0) (e2 bn (ae 1) (eN bC (af (ae 0) ai))))) be)
 (ak (sIf (cI (tV (e2 ltI (ae 1) (eN bC (af (ae 0) ai)))) (tV (e2 geI (eN gp (af (ae 2) ai)) (e2 jE (eC (.int 10)) (eC (.int 18)))))) (aN (aY (af (eN gp (af (ae 2) ai)) (af (eC (.int 0)) (af (eC (.int 0)) ai))))) be)
 (aN (aY (af (eC (.int 0)) (af (e2 aZ (e2 bn (ae 2) (eC (.int 999999937))) (e2 bK (eC (.int 70001)) (ae 1))) (af (eC (.int 0)) ai))))))))
def F_law_pen:List D->Option (D × En):=fnF 1 [0,0] bu
def iO (a b c:Int):D:=.list [.int a,.int b,.int c]
def IsPen (t:D):Prop:=∃ a b c,t=iO a b c
def pen_ok {ns:List Int} {k:Int} (h0:0<=k):∃ p,F_law_pen [.list (ns.map .int),.int k]=some (p,[none,none])/\IsPen p:=by
 have len:bC [.list (ns.map .int)]=some (.int ns.length):=by show some (PyData.int (ns.map PyData.int).length)=_; rw [zad]
 have ln:∀ (y:Option D),(eN bC (af (ae 0) ai)) [some (.list (ns.map .int)),some (.int k),y]=some (.int ns.length,[some (.list (ns.map .int)),some (.int k),y]):=fun y=>nz rfl rfl len;have mk0:CMul 70001 k:=.inl (by decide);have mk:bK (.int 70001) (.int k)=some (.int (70001 * k)):=by
  show (if CMul 70001 k then some (PyData.int (70001 * k)) else none)=_;rw [if_pos mk0]
 have pw:jE (.int 10) (.int 18)=some (.int 1000000000000000000):=by
  show (if fA 10 18 then some (PyData.int (10 ^ Int.toNat 18)) else none)=_;rw [if_pos (by unfold fA; decide)]; rfl
 obtain ⟨c,st⟩:∃ c:Int,(sIf (tV (e2 gtI (eN bC (af (ae 0) ai)) (eC (.int 0)))) (ay 2 (e2 ixA (ae 0) (e2 bn (ae 1) (eN bC (af (ae 0) ai))))) be) [some (.list (ns.map .int)),some (.int k),some (.int 0)]=some (.nx [some (.list (ns.map .int)),some (.int k),some (.int c)]):=by
  by_cases hn:(0:Int) < ns.length
  ·obtain ⟨j,ej⟩:∃ j:Nat,ixN ns.length (k % ns.length)=some j/\j < ns.length:=by
    have q1:0<=k % (ns.length:Int):=za8 _ (by omega);have q2:k % (ns.length:Int) < ns.length:=za9 _ (by omega);exact ⟨(k % (ns.length:Int)).toNat,by unfold ixN; rw [if_pos q1,if_pos q2],by omega⟩
   obtain ⟨c,ec⟩:∃ c,ns[j]?=some c:=⟨_,zak ej.2⟩;have at1:ixA (.list (ns.map .int)) (.int (k % ns.length))=some (.int c):=by
    show atI _ _=_;unfold atI;rw [zad,ej.1];show (ns.map PyData.int)[j]?=_;rw [zao,ec];rfl
   have ml:bn (.int k) (.int ns.length)=some (.int (k % ns.length)):=if_pos hn;exact ⟨c,pd (gh (da (ln _) rfl rfl)) (zaB hn) (Ce (da rfl (da rfl (ln _) ml) at1) rfl)⟩
  ·exact ⟨0,pf (gh (da (ln _) rfl rfl)) (zaA hn) rfl⟩
 obtain ⟨b,ab⟩:∃ b,gp [.int c]=some (.int b):=⟨if c < 0 then -c else c,rfl⟩;have l3:∀ x y z:D,[x,y,z].length<=sizeLine:=fun x y z=>zau (by show 3<=1000; decide) sl1000;have fin:(aN (aY (af (eC (.int 0)) (af (e2 aZ (e2 bn (ae 2) (eC (.int 999999937))) (e2 bK (eC (.int 70001)) (ae 1))) (af (eC (.int 0)) ai))))) [some (.list (ns.map .int)),some (.int k),some (.int c)]=some (.rt (iO 0 (c % 999999937+70001 * k) 0) [some (.list (ns.map .int)),some (.int k),some (.int c)]) :=
  wI (pc (nA rfl (nA (da (t1:=.int (c % 999999937)) (t2:=.int (70001 * k)) rfl (da rfl rfl mk) rfl) rfl)) rfl (l3 _ _ _))
 by_cases h1:(k < (ns.length:Int))/\(1000000000000000000<=b)
 ·refine ⟨iO b 0 0,oV (b:=bu) (en:=[some (.list (ns.map .int)),some (.int k),some (.int c)]) (gY (en1:=[some (.list (ns.map .int)),some (.int k),some (.int 0)]) rfl (gY st (Cf (pd (b:=true) (mI (b:=decide (k < (ns.length:Int))) (gh (da rfl (ln _) rfl)) (zaB h1.1) (gh (da (nz rfl rfl ab) (da rfl rfl pw) (congrArg (fun q=>some (PyData.bool q)) (zaB h1.2))))) rfl (wI (pc (nA (nz rfl rfl ab) rfl) rfl (l3 _ _ _))))))),_,_,_,rfl⟩
 ·refine ⟨_,oV (b:=bu) (en:=[some (.list (ns.map .int)),some (.int k),some (.int c)]) (gY (en1:=[some (.list (ns.map .int)),some (.int k),some (.int 0)]) rfl (gY st (gY (en1:=[some (.list (ns.map .int)),some (.int k),some (.int c)]) (pf (b:=false) ?_ rfl rfl) fin))),_,_,_,rfl⟩;by_cases h2:k < (ns.length:Int)
  ·exact mI (b:=decide (k < (ns.length:Int))) (gh (da rfl (ln _) rfl)) (zaB h2) (gh (da (nz rfl rfl ab) (da rfl rfl pw) (congrArg (fun q=>some (PyData.bool q)) (zaA fun z=>h1 ⟨h2,z⟩))))
  ·exact yf (b:=decide (k < (ns.length:Int))) (gh (da rfl (ln _) rfl)) (zaA h2)
end Pen3
end L2
namespace L2
open PySem PySem.Spec PyProof.Rows
structure W {α:Type} (x:Option α) (Q:α->Prop):Prop where
 ex:∃ a,x=some a/\Q a
def aq {α:Type} (a:α) (Q:α->Prop):W (some a) Q=Q a:=propext ⟨fun ⟨b,e,h⟩=>(zat e) ▸ h,fun h=>⟨a,rfl,h⟩⟩
def bb {α:Type} (Q:α->Prop):W (none:Option α) Q=False:=propext ⟨(fun ⟨b,e,h⟩=>by cases e),(fun h=>h.elim)⟩
def W.use {α:Type} {x:Option α} {P Q:α->Prop} (h:W x P) (k:∀ a,P a->Q a):W x Q :=
 let ⟨a,e,h⟩:=h.ex
 ⟨a,e,k a h⟩
def W.of {α:Type} {x:Option α} {P:α->Prop} {a:α} (e:x=some a) (h:P a):W x P:=⟨a,e,h⟩
def ar {α β:Type} (x:Option α) (f:α->Option β) (Q:β->Prop):W (x.bind f) Q=W x (fun a=>W (f a) Q):=by
 cases x with
 | none=>show W none _=_; rw [bb,bb]
 | some a=>show W (f a) Q=_; rw [aq]
def bd {α β:Type} (x:Option α) (f:α->β) (Q:β->Prop):W (x.map f) Q=W x (fun a=>Q (f a)):=by
 cases x with
 | none=>show W none _=_; rw [bb,bb]
 | some a=>show W (some (f a)) Q=_; rw [aq,aq]
def nG {α:Type} (c:Prop) [Decidable c] (a:α) (Q:α->Prop):W (grd c a) Q=(c/\Q a):=by
 unfold grd;by_cases h:c
 ·rw [if_pos h,aq]; exact propext ⟨fun z=>⟨h,z⟩,fun z=>z.2⟩
 ·rw [if_neg h,bb]; exact propext ⟨fun z=>z.elim,fun z=>h z.1⟩
def ft {α:Type} (c:Prop) [Decidable c] (a:α) (Q:α->Prop):W (if c then some a else none) Q=(c/\Q a):=nG c a Q
def Dt {α:Type} (c:Prop) [Decidable c] (x:Option α) (Q:α->Prop):W (if c then x else none) Q=(c/\W x Q):=by
 by_cases h:c
 ·rw [if_pos h]; exact propext ⟨fun z=>⟨h,z⟩,fun z=>z.2⟩
 ·rw [if_neg h,bb]; exact propext ⟨fun z=>z.elim,fun z=>h z.1⟩
def gv (en:En) (i:Nat):Option D:=(en[i]?).join
def cE (ts:List D) (n:Int) (t:D):Option (List D):=(ixN ts.length n).map fun k=>ts.set k t
def Ee (ts:List D) (n:Int):Option (D × List D):=(seqIndex? n ts.length).bind fun k=>(ts[k]?).map fun t=>(t,ts.eraseIdx k)
def eh (i:Int) (n:Nat):List D:=(List.range n).map fun k=>.int (i+(k:Nat))
section
variable {α β:Type}
def nc (b:MS) (Q:Fl->Prop):Fl->Prop:=fun fl=>W (match fl with | .nx en1=>b en1 | .rt t en1=>some (.rt t en1) | .ct en1=>some (.ct en1)) Q
def Bk (i:Nat) (Q:Fl->Prop):D × En->Prop:=fun r=>Q (.nx (r.2.set i (some r.1)))
def Br (Q:Fl->Prop):D × En->Prop:=fun r=>Q (.nx r.2)
def Bm (Q:Fl->Prop):D × En->Prop:=fun r=>Q (.rt r.1 r.2)
def kIf (f g:En->Option β) (Q:β->Prop):Bool × En->Prop:=fun r=>W (if r.1 then f r.2 else g r.2) Q
def Bq (g:MG) (b:MS) (Q:Fl->Prop):List D × En->Prop:=fun r=>W (bS g b r.1 r.2) Q
def jf (g:MG) (b:MS) (ts:List D) (Q:Fl->Prop):Fl->Prop:=fun fl=>W (match fl with | .nx en2=>bS g b ts en2 | .ct en2=>bS g b ts en2 | .rt r en2=>some (.rt r en2)) Q
def wB (g:MG) (b:MS) (ts:List D) (Q:Fl->Prop):En->Prop:=fun en=>W (b en) (jf g b ts Q)
def qb (i:Nat) (en:En) (Q:Fl->Prop):List D->Prop:=fun ts=>Q (.nx (en.set i (some (.list ts))))
def je (i:Nat) (t:D) (Q:Fl->Prop):D × En->Prop:=fun q=>W (match q.1,(q.2[i]?).join with | .int n,some (.list ts)=>(ixN ts.length n).map fun k=>.nx (q.2.set i (some (.list (ts.set k t)))) | _,_=>none) Q
def nb (i:Nat) (fk:ME) (Q:Fl->Prop):D × En->Prop:=fun r=>W (match (r.2[i]?).join with | some _=>((fk r.2).bind fun q=>(match q.1,(q.2[i]?).join with | .int n,some (.list ts)=>(ixN ts.length n).map fun k=>.nx (q.2.set i (some (.list (ts.set k r.1)))) | _,_=>none)) | none=>none) Q
def oC (i:Nat) (t:D) (fk:ME) (en:En) (Q:Fl->Prop):D->Prop:=fun _x=>W (fk en) (je i t Q)
def lf (i:Nat) (t:D) (n:Int) (en:En) (Q:Fl->Prop):D->Prop:=fun x=>W (match x with | .list ts=>(ixN ts.length n).map fun k=>.nx (en.set i (some (.list (ts.set k t)))) | _=>none) Q
def eD (en:En) (Q:D × En->Prop):D->Prop:=fun t=>Q (t,en)
def kMv (i:Nat) (en:En) (Q:D × En->Prop):D->Prop:=fun t=>Q (t,en.set i none)
def k1 (g:D->Option D) (Q:D × En->Prop):D × En->Prop:=fun r=>W (g r.1) (eD r.2 Q)
def k2b (g:D->D->Option D) (t:D) (Q:D × En->Prop):D × En->Prop:=fun q=>W (g t q.1) (eD q.2 Q)
def k2 (g:D->D->Option D) (f:ME) (Q:D × En->Prop):D × En->Prop:=fun r=>W (f r.2) (k2b g r.1 Q)
def qg (g:ME) (Q:D × En->Prop):D × En->Prop:=fun r=>W (match r.1 with | .bool true=>g r.2 | .bool false=>some (.bool false,r.2) | _=>none) Q
def kOr (g:ME) (Q:D × En->Prop):D × En->Prop:=fun r=>W (match r.1 with | .bool true=>some (.bool true,r.2) | .bool false=>g r.2 | _=>none) Q
def Bn (Q:D × En->Prop):D × En->Prop:=fun r=>W (match r.1 with | .bool b=>some (.bool (!b),r.2) | _=>none) Q
def kTV (Q:Bool × En->Prop):D × En->Prop:=fun r=>W (match r.1 with | .bool b=>some (b,r.2) | _=>none) Q
def nj (g:MT) (Q:Bool × En->Prop):Bool × En->Prop:=fun r=>W (if r.1 then g r.2 else some (false,r.2)) Q
def qf (g:MT) (Q:Bool × En->Prop):Bool × En->Prop:=fun r=>W (if r.1 then some (true,r.2) else g r.2) Q
def wD (Q:Bool × En->Prop):Bool × En->Prop:=fun r=>Q (!r.1,r.2)
def qi (t:D) (Q:List (D ⊕ Nat) × En->Prop):List (D ⊕ Nat) × En->Prop:=fun y=>Q (.inl t :: y.1,y.2)
def kAC (r:MA) (Q:List (D ⊕ Nat) × En->Prop):D × En->Prop:=fun x=>W (r x.2) (qi x.1 Q)
def qh (i:Nat) (Q:List (D ⊕ Nat) × En->Prop):List (D ⊕ Nat) × En->Prop:=fun y=>Q (.inr i :: y.1,y.2)
def kAS (i:Nat) (r:MA) (en:En) (Q:List (D ⊕ Nat) × En->Prop):D->Prop:=fun _x=>W (r en) (qh i Q)
def kN2 (g:List D->Option D) (en:En) (Q:D × En->Prop):List D->Prop:=fun ts=>W (g ts) (eD en Q)
def kN (g:List D->Option D) (Q:D × En->Prop):List (D ⊕ Nat) × En->Prop:=fun r=>W (vals r.1) (kN2 g r.2 Q)
def ng (en:En) (Q:D × En->Prop):List D->Prop:=fun ts=>W (if ts.length<=sizeLine then some (.list ts,en) else none) Q
def Bo (Q:D × En->Prop):List (D ⊕ Nat) × En->Prop:=fun r=>W (vals r.1) (ng r.2 Q)
def na (en:En) (Q:D × En->Prop):List D->Prop:=fun ts=>W (if ts.length<=sizeLine then some (.tuple ts,en) else none) Q
def Bj (Q:D × En->Prop):List (D ⊕ Nat) × En->Prop:=fun r=>W (vals r.1) (na r.2 Q)
def lg (as:List (D ⊕ Nat)) (en:En) (Q:D × En->Prop):D × En->Prop:=fun q=>Q (q.1,wb as q.2 en)
def lh (F:List D->Option (D × En)) (as:List (D ⊕ Nat)) (en:En) (Q:D × En->Prop):List D->Prop:=fun ts=>W (F ts) (lg as en Q)
def wC (F:List D->Option (D × En)) (Q:D × En->Prop):List (D ⊕ Nat) × En->Prop:=fun r=>W (cJ r.1 r.2) (lh F r.1 r.2 Q)
def kFn (dps:List Nat) (Q:D × En->Prop):Fl->Prop:=fun fl=>W (match fl with | .rt t en=>some (t,msk dps en) | .nx en=>some (.none,msk dps en) | .ct _=>none) Q
def ni (q:Bool) (js:List (Option Nat)) (en:En) (Q:D × En->Prop):List D × En->Prop:=fun z=>Q (.list z.1,if q then en else wbB js z.2 en)
def kLC (q:Bool) (g:MG) (c:MT) (f:ME) (js:List (Option Nat)) (Q:D × En->Prop):List D × En->Prop:=fun r=>W (lcF g c f r.1 [] (bM js r.2)) (ni q js r.2 Q)
def kL3 (g:MG) (c:MT) (f:ME) (ts acc:List D) (Q:List D × En->Prop):D × En->Prop:=fun q=>W (if acc.length < sizeLine then lcF g c f ts (acc++[q.1]) q.2 else none) Q
def kL2 (g:MG) (c:MT) (f:ME) (ts acc:List D) (Q:List D × En->Prop):Bool × En->Prop:=fun r=>W (if r.1 then (f r.2).bind fun q=>if acc.length < sizeLine then lcF g c f ts (acc++[q.1]) q.2 else none else lcF g c f ts acc r.2) Q
def kL1 (g:MG) (c:MT) (f:ME) (ts acc:List D) (Q:List D × En->Prop):En->Prop:=fun en=>W (c en) (kL2 g c f ts acc Q)
def no (Q:List D × En->Prop):D × En->Prop:=fun r=>W ((wm r.1).map fun ts=>(ts,r.2)) Q
def kR1 (Q:List D × En->Prop):List (D ⊕ Nat) × En->Prop:=fun r=>W (match r.1 with | [.inl (.int j)]=>if -(2 ^ 62)<=j/\j < 2 ^ 62 then some ((List.range j.toNat).map fun k=>.int (0+(k:Nat)),r.2) else none | _=>none) Q
def kEn (Q:List D × En->Prop):List (D ⊕ Nat) × En->Prop:=fun r=>W (match r.1 with | [.inl (.list ts)]=>some (cf ts,r.2) | [.inl (.tuple ts)]=>some (cf ts,r.2) | _=>none) Q
def om (n:Int) (en:En) (Q:D × En->Prop):D->Prop:=fun x=>W (match x with | .list ts=>(atI ts n).map fun t=>(t,en) | _=>none) Q
def jd (i:Nat) (Q:D × En->Prop):D × En->Prop:=fun r=>W (match r.1,(r.2[i]?).join with | .int n,some (.list ts)=>(atI ts n).map fun t=>(t,r.2) | _,_=>none) Q
def wA (i:Nat) (f:ME) (en:En) (Q:D × En->Prop):D->Prop:=fun _x=>W (f en) (jd i Q)
def nk (i:Nat) (Q:D × En->Prop):D × En->Prop:=fun r=>W (match (r.2[i]?).join with | some (.list ts)=>if ts.length < sizeLine then some (PyData.none,r.2.set i (some (.list (ts++[r.1])))) else none | _=>none) Q
def wE (i:Nat) (t:D) (en:En) (Q:D × En->Prop):D->Prop:=fun x=>W (match x with | .list ts=>if ts.length < sizeLine then some (PyData.none,en.set i (some (.list (ts++[t])))) else none | _=>none) Q
def Bt (i:Nat) (f:ME) (en:En) (Q:D × En->Prop):D->Prop:=fun x=>W (match x with | .list _=>((f en).bind fun r=>(match (r.2[i]?).join with | some (.list ts)=>if ts.length < sizeLine then some (PyData.none,r.2.set i (some (.list (ts++[r.1])))) else none | _=>none)) | _=>none) Q
def kOS (Q:Option Int × En->Prop):D × En->Prop:=fun r=>W (match r.1 with | .int i=>some (some i,r.2) | _=>none) Q
def p8 (g:D->Option Int->Option Int->Option D) (t:D) (lo:Option Int) (Q:D × En->Prop):Option Int × En->Prop:=fun h=>W (g t lo h.1) (eD h.2 Q)
def p9 (g:D->Option Int->Option Int->Option D) (t:D) (hi:MO) (Q:D × En->Prop):Option Int × En->Prop:=fun l=>W (hi l.2) (p8 g t l.1 Q)
def kSl (g:D->Option Int->Option Int->Option D) (lo hi:MO) (Q:D × En->Prop):D × En->Prop:=fun r=>W (lo r.2) (p9 g r.1 hi Q)
def kIt (J:En->Prop) (Q:Fl->Prop):Fl->Prop:=fun fl=>match fl with | .nx e=>J e | .ct e=>J e | .rt t e=>Q (.rt t e)
def qc (us:List D) (J:List D->En->Prop):D × En->Prop:=fun r=>J (us++[r.1]) r.2
def nh (f:ME) (us:List D) (J:List D->En->Prop):Bool × En->Prop:=fun r=>if r.1 then W (f r.2) (qc us J) else J us r.2
def Bp (c:MT) (f:ME) (us:List D) (J:List D->En->Prop):En->Prop:=fun en=>W (c en) (nh f us J)
def kWh (b:MS) (J:En->Prop) (Q:Fl->Prop):Bool × En->Prop:=fun r=>if r.1 then W (b r.2) (kIt J Q) else Q (.nx r.2)
def kFg (b:MS) (J:En->Prop) (Q:Fl->Prop):En->Prop:=fun en=>W (b en) (kIt J Q)
def kGs (q:List D->En->Option En) (ts:List D) (Q:En->Prop):En->Prop:=fun en=>W (q ts en) Q
def jh (t:D) (Q:List D->Prop):List D->Prop:=fun ts=>Q (t :: ts)
def Bs (r:List (D ⊕ Nat)) (en:En) (Q:List D->Prop):D->Prop:=fun t=>W (cJ r en) (jh t Q)
def aL {α:Type} (ts:List α) (n:Nat):atI ts (n:Int)=ts[n]?:=by
 unfold atI ixN;rw [if_pos (by omega)];by_cases h:n < ts.length
 ·rw [if_pos (by omega)]; rfl
 ·rw [if_neg (by omega),List.getElem?_eq_none (by omega)]; rfl
def cS {ts:List D} {t:D} (n:Nat) (h:n < ts.length):cE ts (n:Int) t=some (ts.set n t):=by
 unfold cE ixN;rw [if_pos (by omega),if_pos (by omega)];rfl
def yj (x:D) (l:List D):dD (x :: l) (some 1) none=l:=by
 unfold dD;rw [HT.sIx_none,show (some (1:Int))=some ((1:Nat):Int) from rfl,HT.sIx_nat,Nat.min_eq_left (by simp),List.drop_one];exact List.take_of_length_le (by simp)
def Dp (x:D) (l:List D):(HT.sIx (x :: l).length 0 (some 1)=0)=False:=by
 rw [show (some (1:Int))=some ((1:Nat):Int) from rfl,HT.sIx_nat,Nat.min_eq_left (by simp)];exact eq_false (by decide)
def mC (a b:Int):(a == b)=decide (a=b):=by
 by_cases h:a=b
 ·rw [h,zaB rfl]; exact beq_self_eq_true b
 ·rw [zaA h]; exact beq_eq_false_iff_ne.mpr h
def yg (a b:Bool):eqD (.bool a) (.bool b)=some (.bool (a == b)):=by
 show grd _ _=_;unfold grd;rw [if_pos ⟨rfl,rfl,Nat.zero_le _⟩];simp only [peq]
def xk (a b:Bool):neD (.bool a) (.bool b)=some (.bool (!(a == b))):=by
 show grd _ _=_;unfold grd;rw [if_pos ⟨rfl,rfl,Nat.zero_le _⟩];simp only [peq]
def mf (a b:Str):(a == b)=decide (a=b):=by
 by_cases h:a=b
 ·rw [h,zaB rfl]; exact beq_self_eq_true b
 ·rw [zaA h]; exact beq_eq_false_iff_ne.mpr h
def Cg (a b:Str):eqD (.str a) (.str b)=some (.bool (decide (a=b))):=by
 show grd _ _=_;unfold grd;rw [if_pos ⟨rfl,rfl,Nat.zero_le _⟩,<- mf];simp only [peq]
def A8 (a b:Str):neD (.str a) (.str b)=some (.bool (!decide (a=b))):=by
 show grd _ _=_;unfold grd;rw [if_pos ⟨rfl,rfl,Nat.zero_le _⟩,<- mf];simp only [peq]
def Ch:eqD (.list []) (.list [])=some (.bool true):=by
 show grd _ _=_;unfold grd;rw [if_pos ⟨rfl,rfl,by decide⟩];rfl
def A9:neD (.list []) (.list [])=some (.bool false):=by
 show grd _ _=_;unfold grd;rw [if_pos ⟨rfl,rfl,by decide⟩];rfl
variable (en:En) (Qs:Fl->Prop) (Qe:D × En->Prop) (Qb:Bool × En->Prop) (Qa:List (D ⊕ Nat) × En->Prop) (Ql:List D × En->Prop) (Qd:D->Prop) (Qt:List D->Prop) (Qn:En->Prop) (f:ME) (g:MG) (fa:MA) (c:MT) (ts:List D) (i:Nat)
def ws0 (α:Type) (a:α) (Q:α->Prop):W (some a) Q=Q a:=aq _ _
def ws1 (α:Type) (Q:α->Prop):W (none:Option α) Q=False:=bb _
def ws2 (α:Type) (c:Prop) (_:Decidable c) (a:α) (Q:α->Prop):W (grd c a) Q=(c/\Q a):=nG c a Q
def ws3 (a:Option D) (l:En):gv (a :: l) 0=a:=rfl
def ws4 (a:Option D) (l:En):gv (a :: l) (i+1)=gv l i:=rfl
def ws5 (a b:Option D) (l:En):List.set (a :: l) 0 b=b :: l:=rfl
def ws6 (a b:Option D) (l:En):List.set (a :: l) (i+1) b=a :: List.set l i b:=rfl
def ws7 (a b:MS):W (ak a b en) Qs=W (a en) (nc b Qs):=ar _ _ _
def ws8 (b:MS):nc b Qs (.nx en)=W (b en) Qs:=rfl
def ws9 (b:MS) (t:D):nc b Qs (.rt t en)=Qs (.rt t en):=aq _ _
def As (b:MS):nc b Qs (.ct en)=Qs (.ct en):=aq _ _
def Ar:W (ay i f en) Qs=W (f en) (Bk i Qs):=bd _ _ _
def Aq (t:D):Bk i Qs (t,en)=Qs (.nx (en.set i (some t))):=rfl
def Ap:W (dz f en) Qs=W (f en) (Br Qs):=bd _ _ _
def Ao (t:D):Br Qs (t,en)=Qs (.nx en):=rfl
def An:W (aN f en) Qs=W (f en) (Bm Qs):=bd _ _ _
def Am (t:D):Bm Qs (t,en)=Qs (.rt t en):=rfl
def Al:W (be en) Qs=Qs (.nx en):=aq _ _
def Ak (a b:MS):W (sIf c a b en) Qs=W (c en) (kIf a b Qs):=ar _ _ _
def Aj (β:Type) (a b:En->Option β) (Q:β->Prop):kIf a b Q (true,en)=W (a en) Q:=rfl
def Ai (β:Type) (a b:En->Option β) (Q:β->Prop):kIf a b Q (false,en)=W (b en) Q:=rfl
def Ah (fi:MI) (b:MS):W (cF fi g b en) Qs=W (fi en) (Bq g b Qs):=ar _ _ _
def Ag (b:MS):Bq g b Qs (ts,en)=W (bS g b ts en) Qs:=rfl
def Af (b:MS):W (bS g b [] en) Qs=Qs (.nx en):=aq _ _
def Ae (b:MS) (t:D):W (bS g b (t :: ts) en) Qs=W (g t en) (wB g b ts Qs):=(ar _ _ _).trans (congrArg _ (funext fun z=>ar _ _ _))
def Ad (b:MS):wB g b ts Qs en=W (b en) (jf g b ts Qs):=rfl
def Ac (b:MS):jf g b ts Qs (.nx en)=W (bS g b ts en) Qs:=rfl
def Ab (b:MS):jf g b ts Qs (.ct en)=W (bS g b ts en) Qs:=rfl
def Aa (b:MS) (t:D):jf g b ts Qs (.rt t en)=Qs (.rt t en):=aq _ _
def zZ (t:D):W (gN i t en) Qn=Qn (en.set i (some t)):=aq _ _
def zY (g:List D->En->Option En):W (gT g (.tuple ts) en) Qn=W (g ts en) Qn:=rfl
def zX (q:List D->En->Option En) (t:D):W (gsC g q (t :: ts) en) Qn=W (g t en) (kGs q ts Qn):=ar _ _ _
def zW (q:List D->En->Option En):kGs q ts Qn en=W (q ts en) Qn:=rfl
def zV:W (gs0 [] en) Qn=Qn en:=aq _ _
def zU (fk fe:ME):W (dM i fk fe en) Qs=W (fe en) (nb i fk Qs):=ar _ _ _
def zT (fk:ME) (t:D):nb i fk Qs (t,en)=W (gv en i) (oC i t fk en Qs):=by unfold nb gv; cases h:(en[i]?).join with | none=>simp only [h,bb] | some x=>simp only [h,aq]; exact ar _ _ _
def zS (t:D) (fk:ME) (x:D):oC i t fk en Qs x=W (fk en) (je i t Qs):=rfl
def zR (t:D) (n:Int):je i t Qs (.int n,en)=W (gv en i) (lf i t n en Qs):=by unfold je gv; cases h:(en[i]?).join with | none=>simp only [h,bb] | some x=>simp only [h,aq]; cases x <;> first | rfl | exact (aq _ _).symm | (rw [aq]; rfl) | (rw [aq]; exact bb _)
def zQ (t:D) (n:Int):lf i t n en Qs (.list ts)=W (cE ts n t) (qb i en Qs):=by unfold lf cE qb; dsimp only; rw [bd,bd]
def zP:qb i en Qs ts=Qs (.nx (en.set i (some (.list ts)))):=rfl
def zO (x0 t:D) (l:List D):cE (x0 :: l) 0 t=some (t :: l):=cS 0 (by simp only [zac]; omega)
def zN (x0 x1 t:D) (l:List D):cE (x0 :: x1 :: l) 1 t=some (x0 :: t :: l):=cS 1 (by simp only [zac]; omega)
def zM (x0 x1 x2 t:D) (l:List D):cE (x0 :: x1 :: x2 :: l) 2 t=some (x0 :: x1 :: t :: l):=cS 2 (by simp only [zac]; omega)
def zL (x0 x1 x2 x3 t:D) (l:List D):cE (x0 :: x1 :: x2 :: x3 :: l) 3 t=some (x0 :: x1 :: x2 :: t :: l):=cS 3 (by simp only [zac]; omega)
def zK (x0 x1 x2 x3 x4 t:D) (l:List D):cE (x0 :: x1 :: x2 :: x3 :: x4 :: l) 4 t=some (x0 :: x1 :: x2 :: x3 :: t :: l):=cS 4 (by simp only [zac]; omega)
def zJ (x0 x1 x2 x3 x4 x5 t:D) (l:List D):cE (x0 :: x1 :: x2 :: x3 :: x4 :: x5 :: l) 5 t=some (x0 :: x1 :: x2 :: x3 :: x4 :: t :: l):=cS 5 (by simp only [zac]; omega)
def zI:W (ae i en) Qe=W (gv en i) (eD en Qe):=bd _ _ _
def zH (t:D):eD en Qe t=Qe (t,en):=rfl
def zG:W (eMv i en) Qe=W (gv en i) (kMv i en Qe):=bd _ _ _
def zF (t:D):kMv i en Qe t=Qe (t,en.set i none):=rfl
def zE (t:D):W (eC t en) Qe=Qe (t,en):=aq _ _
def zC (g:D->Option D):W (e1 g f en) Qe=W (f en) (k1 g Qe):=(ar _ _ _).trans (congrArg _ (funext fun z=>bd _ _ _))
def zB (g:D->Option D) (t:D):k1 g Qe (t,en)=W (g t) (eD en Qe):=rfl
def zA (g:D->D->Option D) (f1 f2:ME):W (e2 g f1 f2 en) Qe=W (f1 en) (k2 g f2 Qe):=(ar _ _ _).trans (congrArg _ (funext fun z=>(ar _ _ _).trans (congrArg _ (funext fun y=>bd _ _ _))))
def zz (g:D->D->Option D) (f2:ME) (t:D):k2 g f2 Qe (t,en)=W (f2 en) (k2b g t Qe):=rfl
def zy (g:D->D->Option D) (t u:D):k2b g t Qe (u,en)=W (g t u) (eD en Qe):=rfl
def zx (f g:ME):W (dC f g en) Qe=W (f en) (qg g Qe):=ar _ _ _
def zw (g:ME):qg g Qe (.bool true,en)=W (g en) Qe:=rfl
def zv (g:ME):qg g Qe (.bool false,en)=Qe (.bool false,en):=aq _ _
def zu (f g:ME):W (eOr f g en) Qe=W (f en) (kOr g Qe):=ar _ _ _
def zt (g:ME):kOr g Qe (.bool true,en)=Qe (.bool true,en):=aq _ _
def zr (g:ME):kOr g Qe (.bool false,en)=W (g en) Qe:=rfl
def zq:W (jO f en) Qe=W (f en) (Bn Qe):=ar _ _ _
def zp (x:Bool):Bn Qe (.bool x,en)=Qe (.bool (!x),en):=aq _ _
def zo:W (tV f en) Qb=W (f en) (kTV Qb):=ar _ _ _
def zn (x:Bool):kTV Qb (.bool x,en)=Qb (x,en):=aq _ _
def zm (f g:MT):W (cI f g en) Qb=W (f en) (nj g Qb):=ar _ _ _
def zl (g:MT):nj g Qb (true,en)=W (g en) Qb:=rfl
def zh (g:MT):nj g Qb (false,en)=Qb (false,en):=aq _ _
def zg (f g:MT):W (bOr f g en) Qb=W (f en) (qf g Qb):=ar _ _ _
def zd (g:MT):qf g Qb (true,en)=Qb (true,en):=aq _ _
def zc (g:MT):qf g Qb (false,en)=W (g en) Qb:=rfl
def zb (f:MT):W (hW f en) Qb=W (f en) (wD Qb):=bd _ _ _
def y9 (x:Bool):wD Qb (x,en)=Qb (!x,en):=rfl
def y8:W (cY en) Qb=Qb (true,en):=aq _ _
def y6:W (ai en) Qa=Qa ([],en):=aq _ _
def y4 (r:MA):W (af f r en) Qa=W (f en) (kAC r Qa):=(ar _ _ _).trans (congrArg _ (funext fun z=>bd _ _ _))
def y3 (r:MA) (t:D):kAC r Qa (t,en)=W (r en) (qi t Qa):=rfl
def y2 (t:D) (as:List (D ⊕ Nat)):qi t Qa (as,en)=Qa (.inl t :: as,en):=rfl
def y1 (r:MA):W (aS i r en) Qa=W (gv en i) (kAS i r en Qa):=(ar _ _ _).trans (congrArg _ (funext fun z=>bd _ _ _))
def y0 (r:MA) (t:D):kAS i r en Qa t=W (r en) (qh i Qa):=rfl
def yZ (as:List (D ⊕ Nat)):qh i Qa (as,en)=Qa (.inr i :: as,en):=rfl
def yY:vals []=some []:=rfl
def yX (t:D) (r:List (D ⊕ Nat)):W (vals (.inl t :: r)) Qt=W (vals r) (jh t Qt):=bd _ _ _
def yW (t:D):jh t Qt ts=Qt (t :: ts):=rfl
def yV:cJ [] en=some []:=rfl
def yU (t:D) (r:List (D ⊕ Nat)):W (cJ (.inl t :: r) en) Qt=W (cJ r en) (jh t Qt):=bd _ _ _
def yT (r:List (D ⊕ Nat)):W (cJ (.inr i :: r) en) Qt=W (gv en i) (Bs r en Qt):=(ar _ _ _).trans (congrArg _ (funext fun z=>bd _ _ _))
def yS (t:D) (r:List (D ⊕ Nat)):Bs r en Qt t=W (cJ r en) (jh t Qt):=rfl
def yR (r:List (D ⊕ Nat)) (o:Option D) (outs:En):wb (.inr i :: r) (o :: outs) en=wb r outs (en.set i o):=rfl
def yQ (t:D) (r:List (D ⊕ Nat)) (o:Option D) (outs:En):wb (.inl t :: r) (o :: outs) en=wb r outs en:=rfl
def yP (outs:En):wb [] outs en=en:=rfl
def yO (g:List D->Option D):W (eN g fa en) Qe=W (fa en) (kN g Qe):=(ar _ _ _).trans (congrArg _ (funext fun z=>(ar _ _ _).trans (congrArg _ (funext fun y=>bd _ _ _))))
def yN (g:List D->Option D) (as:List (D ⊕ Nat)):kN g Qe (as,en)=W (vals as) (kN2 g en Qe):=rfl
def yM (g:List D->Option D):kN2 g en Qe ts=W (g ts) (eD en Qe):=rfl
def yL:W (aY fa en) Qe=W (fa en) (Bo Qe):=(ar _ _ _).trans (congrArg _ (funext fun z=>ar _ _ _))
def yK (as:List (D ⊕ Nat)):Bo Qe (as,en)=W (vals as) (ng en Qe):=rfl
def yJ:ng en Qe ts=(ts.length<=sizeLine/\Qe (.list ts,en)):=ft _ _ _
def yI:W (fg fa en) Qe=W (fa en) (Bj Qe):=(ar _ _ _).trans (congrArg _ (funext fun z=>ar _ _ _))
def yH (as:List (D ⊕ Nat)):Bj Qe (as,en)=W (vals as) (na en Qe):=rfl
def wc:na en Qe ts=(ts.length<=sizeLine/\Qe (.tuple ts,en)):=ft _ _ _
def wa:(([]:List D).length<=sizeLine)=True:=eq_true (zau (by show 0<=100; decide) bz)
def v9 (x0:D):(([x0]:List D).length<=sizeLine)=True:=eq_true (zau (by show 1<=100; decide) bz)
def v8 (x0 x1:D):(([x0,x1]:List D).length<=sizeLine)=True:=eq_true (zau (by show 2<=100; decide) bz)
def v7 (x0 x1 x2:D):(([x0,x1,x2]:List D).length<=sizeLine)=True:=eq_true (zau (by show 3<=100; decide) bz)
def v6 (x0 x1 x2 x3:D):(([x0,x1,x2,x3]:List D).length<=sizeLine)=True:=eq_true (zau (by show 4<=100; decide) bz)
def v5 (x0 x1 x2 x3 x4:D):(([x0,x1,x2,x3,x4]:List D).length<=sizeLine)=True:=eq_true (zau (by show 5<=100; decide) bz)
def v3 (x0 x1 x2 x3 x4 x5:D):(([x0,x1,x2,x3,x4,x5]:List D).length<=sizeLine)=True:=eq_true (zau (by show 6<=100; decide) bz)
def vZ (x0 x1 x2 x3 x4 x5 x6:D):(([x0,x1,x2,x3,x4,x5,x6]:List D).length<=sizeLine)=True:=eq_true (zau (by show 7<=100; decide) bz)
def vY (F:List D->Option (D × En)):W (av F fa en) Qe=W (fa en) (wC F Qe):=(ar _ _ _).trans (congrArg _ (funext fun z=>(ar _ _ _).trans (congrArg _ (funext fun y=>bd _ _ _))))
def vX (F:List D->Option (D × En)) (as:List (D ⊕ Nat)):wC F Qe (as,en)=W (cJ as en) (lh F as en Qe):=rfl
def vW (F:List D->Option (D × En)) (as:List (D ⊕ Nat)):lh F as en Qe ts=W (F ts) (lg as en Qe):=rfl
def vV (as:List (D ⊕ Nat)) (t:D) (outs:En):lg as en Qe (t,outs)=Qe (t,wb as outs en):=rfl
def vU (q:Bool) (fi:MI) (js:List (Option Nat)):W (eLC q fi g c f js en) Qe=W (fi en) (kLC q g c f js Qe):=(ar _ _ _).trans (congrArg _ (funext fun z=>bd _ _ _))
def vT (q:Bool) (js:List (Option Nat)):kLC q g c f js Qe (ts,en)=W (lcF g c f ts [] (bM js en)) (ni q js en Qe):=rfl
def vS (js:List (Option Nat)) (us:List D) (ex:En):ni true js en Qe (us,ex)=Qe (.list us,en):=rfl
def vR (js:List (Option Nat)) (us:List D) (ex:En):ni false js en Qe (us,ex)=Qe (.list us,wbB js ex en):=rfl
def vQ:bM [] en=[]:=rfl
def vP (j:Nat) (js:List (Option Nat)):bM (some j :: js) en=gv en j :: bM js en:=rfl
def vO (js:List (Option Nat)):bM (none :: js) en=none :: bM js en:=rfl
def vN (j:Nat) (js:List (Option Nat)) (o:Option D) (ex:En):wbB (some j :: js) (o :: ex) en=wbB js ex (en.set j o):=rfl
def vM (js:List (Option Nat)) (o:Option D) (ex:En):wbB (none :: js) (o :: ex) en=wbB js ex en:=rfl
def vL (ex:En):wbB [] ex en=en:=rfl
def vK:W (lcF g c f [] acc en) Ql=Ql (acc,en):=aq _ _
def vJ:W (cG f en) Ql=W (f en) (no Ql):=ar _ _ _
def vI:no Ql (.list ts,en)=Ql (ts,en):=aq _ _
def vH:no Ql (.tuple ts,en)=Ql (ts,en):=aq _ _
def vG (z:Str):no Ql (.str z,en)=Ql (il z,en):=aq _ _
def vF:W (bP fa en) Ql=W (fa en) (kR1 Ql):=ar _ _ _
def vE (j:Int):kR1 Ql ([.inl (.int j)],en)=((-(2 ^ 62)<=j/\j < 2 ^ 62)/\Ql (eh 0 j.toNat,en)):=ft _ _ _
def vD:W (eE fa en) Ql=W (fa en) (kEn Ql):=ar _ _ _
def vC:kEn Ql ([.inl (.list ts)],en)=Ql (cf ts,en):=aq _ _
def vA:kEn Ql ([.inl (.tuple ts)],en)=Ql (cf ts,en):=aq _ _
def vz:W (gj i f en) Qe=W (gv en i) (wA i f en Qe):=(ar _ _ _).trans (congrArg _ (funext fun z=>ar _ _ _))
def vy (x:D):wA i f en Qe x=W (f en) (jd i Qe):=rfl
def vx (n:Int):jd i Qe (.int n,en)=W (gv en i) (om n en Qe):=by unfold jd gv; cases h:(en[i]?).join with | none=>simp only [h,bb] | some x=>simp only [h,aq]; cases x <;> first | rfl | exact (aq _ _).symm | (rw [aq]; rfl) | (rw [aq]; exact bb _)
def vw (n:Int):om n en Qe (.list ts)=W (atI ts n) (eD en Qe):=bd _ _ _
def vv:W (dB i f en) Qe=W (gv en i) (Bt i f en Qe):=by unfold gv dB; cases (en[i]?).join with | none=>rw [bb,bb] | some x=>cases x <;> first | rfl | exact (aq _ _).symm | (rw [aq]; rfl) | (rw [aq]; exact bb _)
def vt:Bt i f en Qe (.list ts)=W (f en) (nk i Qe):=ar _ _ _
def vq (t:D):nk i Qe (t,en)=W (gv en i) (wE i t en Qe):=by unfold nk gv; cases h:(en[i]?).join with | none=>simp only [h,bb] | some x=>simp only [h,aq]; cases x <;> first | rfl | exact (aq _ _).symm | (rw [aq]; rfl) | (rw [aq]; exact bb _)
def vp (t:D):wE i t en Qe (.list ts)=(ts.length < sizeLine/\Qe (.none,en.set i (some (.list (ts++[t]))))):=ft _ _ _
def vo (Q:Option Int × En->Prop):W (ky en) Q=Q (none,en):=aq _ _
def vn (Q:Option Int × En->Prop):W (ja f en) Q=W (f en) (kOS Q):=ar _ _ _
def vm (n:Int) (Q:Option Int × En->Prop):kOS Q (.int n,en)=Q (some n,en):=aq _ _
def vk (g:D->Option Int->Option Int->Option D) (lo hi:MO):W (eSl g f lo hi en) Qe=W (f en) (kSl g lo hi Qe):=(ar _ _ _).trans (congrArg _ (funext fun z=>(ar _ _ _).trans (congrArg _ (funext fun y=>(ar _ _ _).trans (congrArg _ (funext fun y=>bd _ _ _))))))
def vj (g:D->Option Int->Option Int->Option D) (lo hi:MO) (t:D):kSl g lo hi Qe (t,en)=W (lo en) (p9 g t hi Qe):=rfl
def vi (g:D->Option Int->Option Int->Option D) (hi:MO) (t:D) (a:Option Int):p9 g t hi Qe (a,en)=W (hi en) (p8 g t a Qe):=rfl
def vh (g:D->Option Int->Option Int->Option D) (t:D) (a b:Option Int):p8 g t a Qe (b,en)=W (g t a b) (eD en Qe):=rfl
def vg (J:En->Prop):kIt J Qs (.nx en)=J en:=rfl
def ve (J:En->Prop):kIt J Qs (.ct en)=J en:=rfl
def vd (J:En->Prop) (t:D):kIt J Qs (.rt t en)=Qs (.rt t en):=rfl
def vc (b:MS) (J:En->Prop):kFg b J Qs en=W (b en) (kIt J Qs):=rfl
def vb (b:MS) (J:En->Prop):kWh b J Qs (true,en)=W (b en) (kIt J Qs):=rfl
def va (b:MS) (J:En->Prop):kWh b J Qs (false,en)=Qs (.nx en):=rfl
def u9 (us:List D) (J:List D->En->Prop):Bp c f us J en=W (c en) (nh f us J):=rfl
def u8 (us:List D) (J:List D->En->Prop):nh f us J (true,en)=W (f en) (qc us J):=rfl
def u7 (us:List D) (J:List D->En->Prop):nh f us J (false,en)=J us en:=rfl
def u6 (us:List D) (J:List D->En->Prop) (t:D):qc us J (t,en)=J (us++[t]) en:=rfl
def u5 (n:Nat) (dps:List Nat) (b:MS):W (fnF n dps b ts) Qe=W (b (ts.map some++List.replicate n none)) (kFn dps Qe):=ar _ _ _
def u4 (dps:List Nat) (t:D):kFn dps Qe (.rt t en)=Qe (t,msk dps en):=aq _ _
def u3 (dps:List Nat):kFn dps Qe (.nx en)=Qe (.none,msk dps en):=aq _ _
def u0 (d:Nat) (ds:List Nat) (o:Option D):msk ((d+1) :: ds) (o :: en)=o :: msk ds en:=rfl
def uZ (ds:List Nat) (o:Option D):msk (0 :: ds) (o :: en)=none :: msk ds en:=rfl
def uY:msk [] en=[]:=rfl
def uX (t:D):List.map some (t :: ts)=some t :: List.map some ts:=rfl
def uW:List.map (some:D->Option D) []=[]:=rfl
def uV (a:Option D) (l m:En):(a :: l)++m=a :: (l++m):=rfl
def uU (m:En):([]:En)++m=m:=rfl
def uT (a:Option D):List.replicate 0 a=[]:=rfl
def uS (a:Option D) (n:Nat):List.replicate (n+1) a=a :: List.replicate n a:=rfl
def uR (a b:Int):aZ (.int a) (.int b)=some (.int (a+b)):=rfl
def uQ (a b:Str):W (aZ (.str a) (.str b)) Qd=(a.length+b.length<=sizeLine/\Qd (.str (a++b))):=ft _ _ _
def uP (a b:Int):fR (.int a) (.int b)=some (.int (a - b)):=rfl
def uO (a b:Int):W (bK (.int a) (.int b)) Qd=(CMul a b/\Qd (.int (a * b))):=ft _ _ _
def uN (a b:Int):W (e6 (.int a) (.int b)) Qd=(iZ a b/\Qd (.int (a / b))):=ft _ _ _
def uM (a b:Int):W (bn (.int a) (.int b)) Qd=(0 < b/\Qd (.int (a % b))):=ft _ _ _
def uL (a b:Int):W (jE (.int a) (.int b)) Qd=(fA a b/\Qd (.int (a ^ b.toNat))):=ft _ _ _
def uK (a b:Int):ltI (.int a) (.int b)=some (.bool (decide (a < b))):=rfl
def uJ (a b:Int):gtI (.int a) (.int b)=some (.bool (decide (b < a))):=rfl
def uI (a b:Int):geI (.int a) (.int b)=some (.bool (decide (b<=a))):=rfl
def uH (a b:Int):eqD (.int a) (.int b)=some (.bool (decide (a=b))):=(Ci a b).trans (congrArg (fun q=>some (PyData.bool q)) (mC a b))
def uG (a b:Int):neD (.int a) (.int b)=some (.bool (!decide (a=b))):=(Bb a b).trans (congrArg (fun q=>some (PyData.bool (!q))) (mC a b))
def uF:eo .none .none=some (.bool false):=rfl
def uE (x:Int):eo (.int x) .none=some (.bool true):=rfl
def uD (x:Bool):eo (.bool x) .none=some (.bool true):=rfl
def uC (x:Str):eo (.str x) .none=some (.bool true):=rfl
def uB (x:List D):eo (.list x) .none=some (.bool true):=rfl
def uA (x:List D):eo (.tuple x) .none=some (.bool true):=rfl
def uz (x:List (D × D)):eo (.dict x) .none=some (.bool true):=rfl
def uy:az "int" (.none)=some (.bool false):=(if_neg (fun z=>nomatch z)).trans (congrArg (fun b=>some (PyData.bool b)) (show aA "NoneType" "int"=false by decide))
def ux:az "bool" (.none)=some (.bool false):=(if_neg (fun z=>nomatch z)).trans (congrArg (fun b=>some (PyData.bool b)) (show aA "NoneType" "bool"=false by decide))
def uw:az "str" (.none)=some (.bool false):=(if_neg (fun z=>nomatch z)).trans (congrArg (fun b=>some (PyData.bool b)) (show aA "NoneType" "str"=false by decide))
def uv:az "list" (.none)=some (.bool false):=(if_neg (fun z=>nomatch z)).trans (congrArg (fun b=>some (PyData.bool b)) (show aA "NoneType" "list"=false by decide))
def uu:az "tuple" (.none)=some (.bool false):=(if_neg (fun z=>nomatch z)).trans (congrArg (fun b=>some (PyData.bool b)) (show aA "NoneType" "tuple"=false by decide))
def ut:az "dict" (.none)=some (.bool false):=(if_neg (fun z=>nomatch z)).trans (congrArg (fun b=>some (PyData.bool b)) (show aA "NoneType" "dict"=false by decide))
def ur (x:Int):az "int" (.int x)=some (.bool true):=(if_neg (fun z=>nomatch z)).trans (congrArg (fun b=>some (PyData.bool b)) (show aA "int" "int"=true by decide))
def uq (x:Int):az "bool" (.int x)=some (.bool false):=(if_neg (fun z=>nomatch z)).trans (congrArg (fun b=>some (PyData.bool b)) (show aA "int" "bool"=false by decide))
def up (x:Int):az "str" (.int x)=some (.bool false):=(if_neg (fun z=>nomatch z)).trans (congrArg (fun b=>some (PyData.bool b)) (show aA "int" "str"=false by decide))
def uo (x:Int):az "list" (.int x)=some (.bool false):=(if_neg (fun z=>nomatch z)).trans (congrArg (fun b=>some (PyData.bool b)) (show aA "int" "list"=false by decide))
def um (x:Int):az "tuple" (.int x)=some (.bool false):=(if_neg (fun z=>nomatch z)).trans (congrArg (fun b=>some (PyData.bool b)) (show aA "int" "tuple"=false by decide))
def ul (x:Int):az "dict" (.int x)=some (.bool false):=(if_neg (fun z=>nomatch z)).trans (congrArg (fun b=>some (PyData.bool b)) (show aA "int" "dict"=false by decide))
def uk (x:Bool):az "int" (.bool x)=some (.bool true):=(if_neg (fun z=>nomatch z)).trans (congrArg (fun b=>some (PyData.bool b)) (show aA "bool" "int"=true by decide))
def uj (x:Bool):az "bool" (.bool x)=some (.bool true):=(if_neg (fun z=>nomatch z)).trans (congrArg (fun b=>some (PyData.bool b)) (show aA "bool" "bool"=true by decide))
def ui (x:Bool):az "str" (.bool x)=some (.bool false):=(if_neg (fun z=>nomatch z)).trans (congrArg (fun b=>some (PyData.bool b)) (show aA "bool" "str"=false by decide))
def uh (x:Bool):az "list" (.bool x)=some (.bool false):=(if_neg (fun z=>nomatch z)).trans (congrArg (fun b=>some (PyData.bool b)) (show aA "bool" "list"=false by decide))
def ug (x:Bool):az "tuple" (.bool x)=some (.bool false):=(if_neg (fun z=>nomatch z)).trans (congrArg (fun b=>some (PyData.bool b)) (show aA "bool" "tuple"=false by decide))
def uf (x:Bool):az "dict" (.bool x)=some (.bool false):=(if_neg (fun z=>nomatch z)).trans (congrArg (fun b=>some (PyData.bool b)) (show aA "bool" "dict"=false by decide))
def ue (x:Str):az "int" (.str x)=some (.bool false):=(if_neg (fun z=>nomatch z)).trans (congrArg (fun b=>some (PyData.bool b)) (show aA "str" "int"=false by decide))
def ud (x:Str):az "bool" (.str x)=some (.bool false):=(if_neg (fun z=>nomatch z)).trans (congrArg (fun b=>some (PyData.bool b)) (show aA "str" "bool"=false by decide))
def uc (x:Str):az "str" (.str x)=some (.bool true):=(if_neg (fun z=>nomatch z)).trans (congrArg (fun b=>some (PyData.bool b)) (show aA "str" "str"=true by decide))
def ub (x:Str):az "list" (.str x)=some (.bool false):=(if_neg (fun z=>nomatch z)).trans (congrArg (fun b=>some (PyData.bool b)) (show aA "str" "list"=false by decide))
def ua (x:Str):az "tuple" (.str x)=some (.bool false):=(if_neg (fun z=>nomatch z)).trans (congrArg (fun b=>some (PyData.bool b)) (show aA "str" "tuple"=false by decide))
def t9 (x:Str):az "dict" (.str x)=some (.bool false):=(if_neg (fun z=>nomatch z)).trans (congrArg (fun b=>some (PyData.bool b)) (show aA "str" "dict"=false by decide))
def t8 (x:List D):az "int" (.list x)=some (.bool false):=(if_neg (fun z=>nomatch z)).trans (congrArg (fun b=>some (PyData.bool b)) (show aA "list" "int"=false by decide))
def t7 (x:List D):az "bool" (.list x)=some (.bool false):=(if_neg (fun z=>nomatch z)).trans (congrArg (fun b=>some (PyData.bool b)) (show aA "list" "bool"=false by decide))
def t5 (x:List D):az "str" (.list x)=some (.bool false):=(if_neg (fun z=>nomatch z)).trans (congrArg (fun b=>some (PyData.bool b)) (show aA "list" "str"=false by decide))
def t4 (x:List D):az "list" (.list x)=some (.bool true):=(if_neg (fun z=>nomatch z)).trans (congrArg (fun b=>some (PyData.bool b)) (show aA "list" "list"=true by decide))
def t3 (x:List D):az "tuple" (.list x)=some (.bool false):=(if_neg (fun z=>nomatch z)).trans (congrArg (fun b=>some (PyData.bool b)) (show aA "list" "tuple"=false by decide))
def tZ (x:List D):az "dict" (.list x)=some (.bool false):=(if_neg (fun z=>nomatch z)).trans (congrArg (fun b=>some (PyData.bool b)) (show aA "list" "dict"=false by decide))
def tY (x:List D):az "int" (.tuple x)=some (.bool false):=(if_neg (fun z=>nomatch z)).trans (congrArg (fun b=>some (PyData.bool b)) (show aA "tuple" "int"=false by decide))
def tX (x:List D):az "bool" (.tuple x)=some (.bool false):=(if_neg (fun z=>nomatch z)).trans (congrArg (fun b=>some (PyData.bool b)) (show aA "tuple" "bool"=false by decide))
def tW (x:List D):az "str" (.tuple x)=some (.bool false):=(if_neg (fun z=>nomatch z)).trans (congrArg (fun b=>some (PyData.bool b)) (show aA "tuple" "str"=false by decide))
def tU (x:List D):az "list" (.tuple x)=some (.bool false):=(if_neg (fun z=>nomatch z)).trans (congrArg (fun b=>some (PyData.bool b)) (show aA "tuple" "list"=false by decide))
def tT (x:List D):az "tuple" (.tuple x)=some (.bool true):=(if_neg (fun z=>nomatch z)).trans (congrArg (fun b=>some (PyData.bool b)) (show aA "tuple" "tuple"=true by decide))
def tS (x:List D):az "dict" (.tuple x)=some (.bool false):=(if_neg (fun z=>nomatch z)).trans (congrArg (fun b=>some (PyData.bool b)) (show aA "tuple" "dict"=false by decide))
def tR:az "int" (.dict [])=some (.bool false):=(if_neg (fun z=>nomatch z)).trans (congrArg (fun b=>some (PyData.bool b)) (show aA "dict" "int"=false by decide))
def tQ (k:Str) (x:D) (r:List (D × D)):az "int" (.dict ((.str k,x) :: r))=some (.bool false):=(if_neg (fun z=>nomatch z)).trans (congrArg (fun b=>some (PyData.bool b)) (show aA "dict" "int"=false by decide))
def tO (k:Int) (x:D) (r:List (D × D)):az "int" (.dict ((.int k,x) :: r))=some (.bool false):=(if_neg (fun z=>nomatch z)).trans (congrArg (fun b=>some (PyData.bool b)) (show aA "dict" "int"=false by decide))
def tN (k:List D) (x:D) (r:List (D × D)):az "int" (.dict ((.tuple k,x) :: r))=some (.bool false):=(if_neg (fun z=>nomatch z)).trans (congrArg (fun b=>some (PyData.bool b)) (show aA "dict" "int"=false by decide))
def tM:az "bool" (.dict [])=some (.bool false):=(if_neg (fun z=>nomatch z)).trans (congrArg (fun b=>some (PyData.bool b)) (show aA "dict" "bool"=false by decide))
def tL (k:Str) (x:D) (r:List (D × D)):az "bool" (.dict ((.str k,x) :: r))=some (.bool false):=(if_neg (fun z=>nomatch z)).trans (congrArg (fun b=>some (PyData.bool b)) (show aA "dict" "bool"=false by decide))
def tK (k:Int) (x:D) (r:List (D × D)):az "bool" (.dict ((.int k,x) :: r))=some (.bool false):=(if_neg (fun z=>nomatch z)).trans (congrArg (fun b=>some (PyData.bool b)) (show aA "dict" "bool"=false by decide))
def tJ (k:List D) (x:D) (r:List (D × D)):az "bool" (.dict ((.tuple k,x) :: r))=some (.bool false):=(if_neg (fun z=>nomatch z)).trans (congrArg (fun b=>some (PyData.bool b)) (show aA "dict" "bool"=false by decide))
def tI:az "str" (.dict [])=some (.bool false):=(if_neg (fun z=>nomatch z)).trans (congrArg (fun b=>some (PyData.bool b)) (show aA "dict" "str"=false by decide))
def tH (k:Str) (x:D) (r:List (D × D)):az "str" (.dict ((.str k,x) :: r))=some (.bool false):=(if_neg (fun z=>nomatch z)).trans (congrArg (fun b=>some (PyData.bool b)) (show aA "dict" "str"=false by decide))
def tG (k:Int) (x:D) (r:List (D × D)):az "str" (.dict ((.int k,x) :: r))=some (.bool false):=(if_neg (fun z=>nomatch z)).trans (congrArg (fun b=>some (PyData.bool b)) (show aA "dict" "str"=false by decide))
def tE (k:List D) (x:D) (r:List (D × D)):az "str" (.dict ((.tuple k,x) :: r))=some (.bool false):=(if_neg (fun z=>nomatch z)).trans (congrArg (fun b=>some (PyData.bool b)) (show aA "dict" "str"=false by decide))
def tD:az "list" (.dict [])=some (.bool false):=(if_neg (fun z=>nomatch z)).trans (congrArg (fun b=>some (PyData.bool b)) (show aA "dict" "list"=false by decide))
def tz (k:Str) (x:D) (r:List (D × D)):az "list" (.dict ((.str k,x) :: r))=some (.bool false):=(if_neg (fun z=>nomatch z)).trans (congrArg (fun b=>some (PyData.bool b)) (show aA "dict" "list"=false by decide))
def tw (k:Int) (x:D) (r:List (D × D)):az "list" (.dict ((.int k,x) :: r))=some (.bool false):=(if_neg (fun z=>nomatch z)).trans (congrArg (fun b=>some (PyData.bool b)) (show aA "dict" "list"=false by decide))
def tq (k:List D) (x:D) (r:List (D × D)):az "list" (.dict ((.tuple k,x) :: r))=some (.bool false):=(if_neg (fun z=>nomatch z)).trans (congrArg (fun b=>some (PyData.bool b)) (show aA "dict" "list"=false by decide))
def tj:az "tuple" (.dict [])=some (.bool false):=(if_neg (fun z=>nomatch z)).trans (congrArg (fun b=>some (PyData.bool b)) (show aA "dict" "tuple"=false by decide))
def tf (k:Str) (x:D) (r:List (D × D)):az "tuple" (.dict ((.str k,x) :: r))=some (.bool false):=(if_neg (fun z=>nomatch z)).trans (congrArg (fun b=>some (PyData.bool b)) (show aA "dict" "tuple"=false by decide))
def sZ (k:Int) (x:D) (r:List (D × D)):az "tuple" (.dict ((.int k,x) :: r))=some (.bool false):=(if_neg (fun z=>nomatch z)).trans (congrArg (fun b=>some (PyData.bool b)) (show aA "dict" "tuple"=false by decide))
def sY (k:List D) (x:D) (r:List (D × D)):az "tuple" (.dict ((.tuple k,x) :: r))=some (.bool false):=(if_neg (fun z=>nomatch z)).trans (congrArg (fun b=>some (PyData.bool b)) (show aA "dict" "tuple"=false by decide))
def sX:az "dict" (.dict [])=some (.bool true):=(if_neg (fun z=>nomatch z)).trans (congrArg (fun b=>some (PyData.bool b)) (show aA "dict" "dict"=true by decide))
def sW (k:Str) (x:D) (r:List (D × D)):az "dict" (.dict ((.str k,x) :: r))=some (.bool true):=(if_neg (fun z=>nomatch z)).trans (congrArg (fun b=>some (PyData.bool b)) (show aA "dict" "dict"=true by decide))
def sV (k:Int) (x:D) (r:List (D × D)):az "dict" (.dict ((.int k,x) :: r))=some (.bool true):=(if_neg (fun z=>nomatch z)).trans (congrArg (fun b=>some (PyData.bool b)) (show aA "dict" "dict"=true by decide))
def sU (k:List D) (x:D) (r:List (D × D)):az "dict" (.dict ((.tuple k,x) :: r))=some (.bool true):=(if_neg (fun z=>nomatch z)).trans (congrArg (fun b=>some (PyData.bool b)) (show aA "dict" "dict"=true by decide))
def sT:((([]:List D).length:Nat):Int)=0:=rfl
def sS (x0:D):((([x0]:List D).length:Nat):Int)=1:=rfl
def sR (x0 x1:D):((([x0,x1]:List D).length:Nat):Int)=2:=rfl
def sQ (x0 x1 x2:D):((([x0,x1,x2]:List D).length:Nat):Int)=3:=rfl
def sP (x0 x1 x2 x3:D):((([x0,x1,x2,x3]:List D).length:Nat):Int)=4:=rfl
def sO (x0 x1 x2 x3 x4:D):((([x0,x1,x2,x3,x4]:List D).length:Nat):Int)=5:=rfl
def sN (x0 x1 x2 x3 x4 x5:D):((([x0,x1,x2,x3,x4,x5]:List D).length:Nat):Int)=6:=rfl
def sM (x0 x1 x2 x3 x4 x5 x6:D):((([x0,x1,x2,x3,x4,x5,x6]:List D).length:Nat):Int)=7:=rfl
def sL (α β:Type) (f:α->β) (l:List α):(l.map f).length=l.length:=zad f
def sK:bC [.list ts]=some (.int ts.length):=rfl
def sJ:bC [.tuple ts]=some (.int ts.length):=rfl
def sI (z:Str):W (bC [.str z]) Qd=(z.length<=sizeLine/\Qd (.int z.length)):=nG _ _ _
def sH (a:Int):gp [.int a]=some (.int (if a < 0 then -a else a)):=rfl
def sG (a b:Int):m7 [.int a,.int b]=some (.int (if b > a then b else a)):=rfl
def sF:fX [.list ts]=some (.list ts):=rfl
def sE (n:Int):ixA (.list ts) (.int n)=atI ts n:=rfl
def sD:fX [.tuple ts]=some (.list ts):=rfl
def sC (n:Int):ixA (.tuple ts) (.int n)=atI ts n:=rfl
def sB (ts us:List D):W (lH (.list ts) (.list us)) Qd=(ts.length+us.length<=sizeLine/\Qd (.list (ts++us))):=ft _ _ _
def sA (lo hi:Option Int):nC (.list ts) lo hi=some (.list (dD ts lo hi)):=rfl
def sy:atI ts 0=ts[0]?:=aL ts _
def sx:atI ts 1=ts[1]?:=aL ts _
def sv:atI ts 2=ts[2]?:=aL ts _
def su:atI ts 3=ts[3]?:=aL ts _
def ss:atI ts 4=ts[4]?:=aL ts _
def sr:atI ts 5=ts[5]?:=aL ts _
def sn:atI ts 6=ts[6]?:=aL ts _
def sm:atI ts 7=ts[7]?:=aL ts _
def sk:atI ts 8=ts[8]?:=aL ts _
def sj:atI ts 9=ts[9]?:=aL ts _
def sg:atI ts 10=ts[10]?:=aL ts _
def sf:atI ts 11=ts[11]?:=aL ts _
def se:atI ts 12=ts[12]?:=aL ts _
def sd:atI ts 13=ts[13]?:=aL ts _
def r9:atI ts 14=ts[14]?:=aL ts _
def r8:atI ts 15=ts[15]?:=aL ts _
def r6:atI ts 16=ts[16]?:=aL ts _
def rZ:atI ts 17=ts[17]?:=aL ts _
def rY:atI ts 18=ts[18]?:=aL ts _
def rX:atI ts 19=ts[19]?:=aL ts _
def rW:atI ts 20=ts[20]?:=aL ts _
def rV (t:D):(t :: ts)[0]?=some t:=rfl
def rU (t:D):(t :: ts)[i+1]?=ts[i]?:=List.getElem?_cons_succ
def rT (a b:Bool):eqD (.bool a) (.bool b)=some (.bool (a == b)):=yg a b
def rS (a b:Bool):neD (.bool a) (.bool b)=some (.bool (!(a == b))):=xk a b
def rR (a b:Str):eqD (.str a) (.str b)=some (.bool (decide (a=b))):=Cg a b
def rQ (a b:Str):neD (.str a) (.str b)=some (.bool (!decide (a=b))):=A8 a b
def rP:neD (.list []) (.list [])=some (.bool false):=A9
def rO:eqD (.list []) (.list [])=some (.bool true):=Ch
def rN (a:Bool):(a == a)=true:=beq_self_eq_true a
def rM:(true == false)=false:=rfl
def rL:(false == true)=false:=rfl
def rK (t:D) (ts acc:List D):W (lcF g c f (t :: ts) acc en) Ql=W (g t en) (kL1 g c f ts acc Ql):=by unfold lcF; rw [ar]; congr 1; funext z; rw [ar]; rfl
def rJ (ts acc:List D):kL1 g c f ts acc Ql en=W (c en) (kL2 g c f ts acc Ql):=rfl
def rH (ts acc:List D):kL2 g c f ts acc Ql (true,en)=W (f en) (kL3 g c f ts acc Ql):=ar _ _ _
def rG (ts acc:List D):kL2 g c f ts acc Ql (false,en)=W (lcF g c f ts acc en) Ql:=rfl
def rF (ts acc:List D) (t:D):kL3 g c f ts acc Ql (t,en)=(acc.length < sizeLine/\W (lcF g c f ts (acc++[t]) en) Ql):=Dt _ _ _
def rE (m:List D):([]++m:List D)=m:=rfl
def rD (x:D) (l m:List D):((x :: l)++m:List D)=x :: (l++m):=rfl
def rC:(([]:List D).length < sizeLine)=True:=eq_true (zag (by show 0 < 100; decide) bz)
def rB (x0:D):(([x0]:List D).length < sizeLine)=True:=eq_true (zag (by show 1 < 100; decide) bz)
def rA (x0 x1:D):(([x0,x1]:List D).length < sizeLine)=True:=eq_true (zag (by show 2 < 100; decide) bz)
def rz (x0 x1 x2:D):(([x0,x1,x2]:List D).length < sizeLine)=True:=eq_true (zag (by show 3 < 100; decide) bz)
def rs (x0 x1 x2 x3:D):(([x0,x1,x2,x3]:List D).length < sizeLine)=True:=eq_true (zag (by show 4 < 100; decide) bz)
def rq (x0 x1 x2 x3 x4:D):(([x0,x1,x2,x3,x4]:List D).length < sizeLine)=True:=eq_true (zag (by show 5 < 100; decide) bz)
def rp (x0 x1 x2 x3 x4 x5:D):(([x0,x1,x2,x3,x4,x5]:List D).length < sizeLine)=True:=eq_true (zag (by show 6 < 100; decide) bz)
def rn (x0 x1 x2 x3 x4 x5 x6:D):(([x0,x1,x2,x3,x4,x5,x6]:List D).length < sizeLine)=True:=eq_true (zag (by show 7 < 100; decide) bz)
def rm (x:D) (l:List D):dD (x :: l) (some 1) none=l:=yj x l
def rk (x:D) (l:List D):(HT.sIx (x :: l).length 0 (some 1)=0)=False:=Dp x l
def rj (p:Prop):(False/\p)=False:=false_and p
def rh:(¬ False)=True:=not_false_eq_true
def rg:(!true)=false:=rfl
def rf:(!false)=true:=rfl
def re (p:Prop):(True/\p)=p:=true_and p
def rd (p:Prop):(p/\True)=p:=and_true p
def rb (_:Decidable True):decide True=true:=zaB trivial
def qZ (_:Decidable False):decide False=false:=zaA (fun z=>z)
def qY (α:Sort 1) (a:α):(a=a)=True:=eq_self a
end
def zzI {a b:Prop} (x:a) (y:b):a/\b:=⟨x,y⟩
def yG:=zzI @ws0 (zzI @ws1 (zzI @ws2 (zzI @ws3 (zzI @ws4 (zzI @ws5 (zzI @ws6 (zzI @ws7 (zzI @ws8 (zzI @ws9 (zzI @As (zzI @Ar (zzI @Aq (zzI @Ap (zzI @Ao (zzI @An (zzI @Am (zzI @Al (zzI @Ak (zzI @Aj (zzI @Ai (zzI @Ah (zzI @Ag (zzI @Af (zzI @Ae (zzI @Ad (zzI @Ac (zzI @Ab (zzI @Aa (zzI @zZ (zzI @zY (zzI @zX (zzI @zW (zzI @zV (zzI @zU (zzI @zT (zzI @zS (zzI @zR (zzI @zQ @zP))))))))))))))))))))))))))))))))))))))
def yF:=zzI @zO (zzI @zN (zzI @zM (zzI @zL (zzI @zK (zzI @zJ (zzI @zI (zzI @zH (zzI @zG (zzI @zF (zzI @zE (zzI @zC (zzI @zB (zzI @zA (zzI @zz (zzI @zy (zzI @zx (zzI @zw (zzI @zv (zzI @zu (zzI @zt (zzI @zr (zzI @zq (zzI @zp (zzI @zo (zzI @zn (zzI @zm (zzI @zl (zzI @zh (zzI @zg (zzI @zd (zzI @zc (zzI @zb (zzI @y9 (zzI @y8 (zzI @y6 (zzI @y4 (zzI @y3 (zzI @y2 @y1))))))))))))))))))))))))))))))))))))))
def yE:=zzI @y0 (zzI @yZ (zzI @yY (zzI @yX (zzI @yW (zzI @yV (zzI @yU (zzI @yT (zzI @yS (zzI @yR (zzI @yQ (zzI @yP (zzI @yO (zzI @yN (zzI @yM (zzI @yL (zzI @yK (zzI @yJ (zzI @yI (zzI @yH (zzI @wc (zzI @wa (zzI @v9 (zzI @v8 (zzI @v7 (zzI @v6 (zzI @v5 (zzI @v3 (zzI @vZ (zzI @vY (zzI @vX (zzI @vW (zzI @vV (zzI @vU (zzI @vT (zzI @vS (zzI @vR (zzI @vQ (zzI @vP @vO))))))))))))))))))))))))))))))))))))))
def yD:=zzI @vN (zzI @vM (zzI @vL (zzI @vK (zzI @vJ (zzI @vI (zzI @vH (zzI @vG (zzI @vF (zzI @vE (zzI @vD (zzI @vC (zzI @vA (zzI @vz (zzI @vy (zzI @vx (zzI @vw (zzI @vv (zzI @vt (zzI @vq (zzI @vp (zzI @vo (zzI @vn (zzI @vm (zzI @vk (zzI @vj (zzI @vi (zzI @vh (zzI @vg (zzI @ve (zzI @vd (zzI @vc (zzI @vb (zzI @va (zzI @u9 (zzI @u8 (zzI @u7 (zzI @u6 (zzI @u5 @u4))))))))))))))))))))))))))))))))))))))
def yC:=zzI @u3 (zzI @u0 (zzI @uZ (zzI @uY (zzI @uX (zzI @uW (zzI @uV (zzI @uU (zzI @uT (zzI @uS (zzI @uR (zzI @uQ (zzI @uP (zzI @uO (zzI @uN (zzI @uM (zzI @uL (zzI @uK (zzI @uJ (zzI @uI (zzI @uH (zzI @uG (zzI @uF (zzI @uE (zzI @uD (zzI @uC (zzI @uB (zzI @uA (zzI @uz (zzI @uy (zzI @ux (zzI @uw (zzI @uv (zzI @uu (zzI @ut (zzI @ur (zzI @uq (zzI @up (zzI @uo @um))))))))))))))))))))))))))))))))))))))
def yB:=zzI @ul (zzI @uk (zzI @uj (zzI @ui (zzI @uh (zzI @ug (zzI @uf (zzI @ue (zzI @ud (zzI @uc (zzI @ub (zzI @ua (zzI @t9 (zzI @t8 (zzI @t7 (zzI @t5 (zzI @t4 (zzI @t3 (zzI @tZ (zzI @tY (zzI @tX (zzI @tW (zzI @tU (zzI @tT (zzI @tS (zzI @tR (zzI @tQ (zzI @tO (zzI @tN (zzI @tM (zzI @tL (zzI @tK (zzI @tJ (zzI @tI (zzI @tH (zzI @tG (zzI @tE (zzI @tD (zzI @tz @tw))))))))))))))))))))))))))))))))))))))
def yA:=zzI @tq (zzI @tj (zzI @tf (zzI @sZ (zzI @sY (zzI @sX (zzI @sW (zzI @sV (zzI @sU (zzI @sT (zzI @sS (zzI @sR (zzI @sQ (zzI @sP (zzI @sO (zzI @sN (zzI @sM (zzI @sL (zzI @sK (zzI @sJ (zzI @sI (zzI @sH (zzI @sG (zzI @sF (zzI @sE (zzI @sD (zzI @sC (zzI @sB (zzI @sA (zzI @sy (zzI @sx (zzI @sv (zzI @su (zzI @ss (zzI @sr (zzI @sn (zzI @sm (zzI @sk (zzI @sj @sg))))))))))))))))))))))))))))))))))))))
def yz:=zzI @sf (zzI @se (zzI @sd (zzI @r9 (zzI @r8 (zzI @r6 (zzI @rZ (zzI @rY (zzI @rX (zzI @rW (zzI @rV (zzI @rU (zzI @rT (zzI @rS (zzI @rR (zzI @rQ (zzI @rP (zzI @rO (zzI @rN (zzI @rM (zzI @rL (zzI @rK (zzI @rJ (zzI @rH (zzI @rG (zzI @rF (zzI @rE (zzI @rD (zzI @rC (zzI @rB (zzI @rA (zzI @rz (zzI @rs (zzI @rq (zzI @rp (zzI @rn (zzI @rm (zzI @rk (zzI @rj @rh))))))))))))))))))))))))))))))))))))))
def yy:=zzI @rg (zzI @rf (zzI @re (zzI @rd (zzI @rb (zzI @qZ @qY)))))
def ws:=zzI @yG (zzI @yF (zzI @yE (zzI @yD (zzI @yC (zzI @yB (zzI @yA (zzI @yz @yy)))))))
def dR {g:MG} {b:MS} {ts:List D} {en:En} {Q:Fl->Prop} (I:Nat->En->Prop) (h0:I 0 en)
  (hs:∀ i t en,ts[i]?=some t->I i en->W (g t en) (kFg b (I (i+1)) Q)) (hq:∀ en,I ts.length en->Q (.nx en)):W (bS g b ts en) Q:=by
 suffices ∀ (us:List D) (i:Nat) (en:En),ts.drop i=us->i<=ts.length->I i en->W (bS g b us en) Q from this ts 0 en rfl (Nat.zero_le _) h0
 intro us
 induction us with
 | nil =>
  intro i en hu hi h
  have:ts.length - i=0:=by rw [<- zaF,hu]; rfl
  simp only [ws];exact hq en (by rw [show ts.length=i by omega]; exact h)
 | cons t us ih =>
  intro i en hu hi h;have ht:ts[i]?=some t:=by
   have:(ts.drop i)[0]?=some t:=by rw [hu]; rfl
   rw [List.getElem?_drop] at this;exact this
  have hl:i < ts.length:=(zah.mp ht).1;have hd:ts.drop (i+1)=us:=by rw [<- List.drop_drop,hu]; rfl
  simp only [ws];refine (hs i t en ht h).use fun en1 h1=>?_;simp only [ws] at h1 ⊢;refine h1.use fun fl h2=>?_;cases fl with
  | nx e=>simp only [ws] at h2 ⊢; exact ih (i+1) e hd hl h2
  | ct e=>simp only [ws] at h2 ⊢; exact ih (i+1) e hd hl h2
  | rt t e=>simp only [ws] at h2 ⊢; exact h2
def qR {g:MG} {c:MT} {f:ME} {ts:List D} {en:En} {Q:List D × En->Prop} (I:Nat->List D->En->Prop) (hz:ts.length<=sizeLine) (h0:I 0 [] en)
  (hs:∀ i t us en,ts[i]?=some t->us.length<=i->I i us en->W (g t en) (Bp c f us (I (i+1)))) (hq:∀ us en,us.length<=ts.length->I ts.length us en->Q (us,en)):W (lcF g c f ts [] en) Q:=by
 suffices ∀ (vs:List D) (i:Nat) (us:List D) (en:En),ts.drop i=vs->i<=ts.length->us.length<=i->I i us en->W (lcF g c f vs us en) Q from this ts 0 [] en rfl (Nat.zero_le _) (Nat.zero_le _) h0
 intro vs
 induction vs with
 | nil =>
  intro i us en hu hi hl h
  have:ts.length - i=0:=by rw [<- zaF,hu]; rfl
  simp only [ws];exact hq us en (by omega) (by rw [show ts.length=i by omega]; exact h)
 | cons t vs ih =>
  intro i us en hu hi hl h;have ht:ts[i]?=some t:=by
   have:(ts.drop i)[0]?=some t:=by rw [hu]; rfl
   rw [List.getElem?_drop] at this;exact this
  have hlt:i < ts.length:=(zah.mp ht).1;have hd:ts.drop (i+1)=vs:=by rw [<- List.drop_drop,hu]; rfl
  unfold lcF;rw [ar];refine (hs i t us en ht hl h).use fun en1 h1=>?_;simp only [ws] at h1;rw [ar];refine h1.use fun r h2=>?_;obtain ⟨x,en2⟩:=r;cases x with
  | true =>
   simp only [ws] at h2;show W ((f en2).bind _) Q;rw [ar];refine h2.use fun q h3=>?_;obtain ⟨u,en3⟩:=q;simp only [ws] at h3;show W (if us.length < sizeLine then _ else _) Q;rw [if_pos (by omega)];exact ih (i+1) _ _ hd hlt (by rw [zae]; show _+1<=_; omega) h3
  | false =>
   simp only [ws] at h2;exact ih (i+1) _ _ hd hlt (by omega) h2
def mO {c:MT} {b:MS} {en:En} {Q:Fl->Prop} (I:Nat->En->Prop) (hs:∀ n en,I n en->W (c en) (kWh b (fun e=>∃ m,m < n/\I m e) Q)) {n:Nat} (h0:I n en):W (bB c b en) Q:=by
 induction n using Nat.strongRecOn generalizing en with
 | _ n ih =>
  obtain ⟨⟨x,en1⟩,e1,h1⟩:=(hs n en h0).ex;cases x with
  | false=>simp only [ws] at h1; exact W.of (lU e1) h1
  | true =>
   simp only [ws] at h1;obtain ⟨fl,e2,h2⟩:=h1.ex;cases fl with
   | nx e =>
    obtain ⟨m,hm,hi⟩:∃ m,m < n/\I m e:=h2;obtain ⟨fl,e3,h3⟩:=(ih m hm hi).ex;exact W.of (lV e1 e2 e3) h3
   | ct e =>
    obtain ⟨m,hm,hi⟩:∃ m,m < n/\I m e:=h2;obtain ⟨fl,e3,h3⟩:=(ih m hm hi).ex;obtain ⟨k,h4⟩:=e8 e3;refine W.of (eU (n:=k+1) ?_) h3;unfold whN;rw [e1];show (b en1).bind _=_;rw [e2];exact h4
   | rt t e =>
    refine W.of (eU (n:=1) ?_) (show Q (.rt t e) from h2);unfold whN;rw [e1];show (b en1).bind _=_;rw [e2];rfl
def hZ {f:ME} {ts:List D} {o:Option D} {rest:En} {Q:List D × En->Prop} (F:D->D) (hz:ts.length<=sizeLine) (hf:∀ t∈ts,W (f (some t :: rest)) (fun r=>r=(F t,some t :: rest))) (hq:∀ o',Q (ts.map F,o' :: rest)):W (lcF (gN 0) cY f ts [] (o :: rest)) Q:=by
 obtain ⟨o',e⟩:=xn (f:=f) (F:=F) (rest:=rest) ts [] o (fun t ht=>by
  obtain ⟨r,e,h⟩:=(hf t ht).ex;rw [e,h]) (by simpa using hz)
 exact W.of e (hq o')
def h8 {c:MT} {f:ME} {ts:List D} {o:Option D} {rest:En} {Q:List D × En->Prop} (p:D->Bool) (F:D->D) (hz:ts.length<=sizeLine) (hc:∀ t∈ts,W (c (some t :: rest)) (fun r=>r=(p t,some t :: rest))) (hf:∀ t∈ts,p t=true->W (f (some t :: rest)) (fun r=>r=(F t,some t :: rest))) (hq:∀ o',Q ((ts.filter p).map F,o' :: rest)):W (lcF (gN 0) c f ts [] (o :: rest)) Q:=by
 obtain ⟨o',e⟩:=dO (c:=c) (f:=f) (p:=p) (F:=F) (rest:=rest) ts [] o (fun t ht=>by
  obtain ⟨r,e,h⟩:=(hc t ht).ex;rw [e,h]) (fun t ht hp=>by
  obtain ⟨r,e,h⟩:=(hf t ht hp).ex;rw [e,h]) (by simpa using hz)
 exact W.of e (hq o')
def nO {α:Type} {ts:List α} {i:Nat} {t:α} (h:ts[i]?=some t):ts.take (i+1)=ts.take i++[t]:=by
 rw [List.take_add_one,h]; rfl
def Cn {g:MG} {f:ME} {ts:List D} {en:En} {Q:List D × En->Prop} (J:En->Prop) (F:D->D) (hz:ts.length<=sizeLine) (h0:J en) (hs:∀ t∈ts,∀ en,J en->W (g t en) (fun en1=>W (f en1) (fun r=>r.1=F t/\J r.2))) (hq:∀ en,J en->Q (ts.map F,en)):W (lcF g cY f ts [] en) Q:=by
 refine qR (fun i us en=>us=(ts.take i).map F/\J en) hz ⟨rfl,h0⟩ (fun i t us en ht _ ⟨e,hj⟩=>?_) fun us en _ ⟨e,hj⟩=>?_
 ·refine (hs t (zaV ht) en hj).use fun en1 h1=>?_;simp only [ws];refine h1.use fun r h2=>?_;obtain ⟨u,en2⟩:=r;simp only [ws];refine ⟨?_,h2.2⟩;rw [nO ht,zaC,e];show _++[u]=_++[F t];rw [show u=F t from h2.1]
 ·rw [e,zaO];exact hq en hj
def Cp {g:MG} {b:MS} {ts:List D} {en:En} {Q:Fl->Prop} (J:En->Prop) (h0:J en) (hs:∀ t∈ts,∀ en,J en->W (g t en) (kFg b J Q)) (hq:∀ en,J en->Q (.nx en)):W (bS g b ts en) Q :=
 dR (fun _=>J) h0 (fun _ t en ht hj=>hs t (zaV ht) en hj) hq
def fF {i:Int} {n k:Nat} {t:D} (h:(eh i n)[k]?=some t):k < n/\t=.int (i+(k:Nat)):=by
 unfold eh at h;rw [zao] at h;obtain ⟨j,hj,rfl⟩:=zab.mp h;obtain ⟨hl,e⟩:=zah.mp hj;rw [List.getElem_range] at e;rw [List.length_range] at hl;exact ⟨hl,by rw [e]⟩
def cT (i:Int) (n:Nat):(eh i n).length=n:=by unfold eh; rw [zad,List.length_range]
def sz {n:Nat} (h:n<=1000):n<=sizeLine:=zau h Pen3.sl1000
def szl {n:Nat} (h:n < 1000):n < sizeLine:=zag h Pen3.sl1000
def Dr {α:Type} {ts:List α} {i:Int} {x:α} (h0:0<=i) (h:ts[i.toNat]?=some x):atI ts i=some x:=by
 obtain ⟨n,rfl⟩:=zaK h0;rw [aL];exact h
def kG {ns:List Int} {k:Int} (h0:0<=k) {Q:D × En->Prop} (h:∀ p,Pen3.IsPen p->Q (p,[none,none])):W (Pen3.F_law_pen [.list (ns.map .int),.int k]) Q:=by
 obtain ⟨p,e,hp⟩:=Pen3.pen_ok h0;exact W.of e (h p hp)
end L2
namespace W12
open PySem L2
def top (i:Nat):Stmt:=PySem.Challenge.pw_wordrules_k12_met_and_alive.main.body.getD i (.Pass ⟨0,0,0,0⟩)
structure Bl (mg:Str->Option Value):Prop where
 abs0:mg "abs"=none
 bool0:mg "bool"=none
 dict0:mg "dict"=none
 enumerate0:mg "enumerate"=none
 int0:mg "int"=none
 isinstance0:mg "isinstance"=none
 len0:mg "len"=none
 list0:mg "list"=none
 max0:mg "max"=none
 range0:mg "range"=none
 sorted0:mg "sorted"=none
section
variable {P:Program} {w:World} {K:PySem.W.Frag} {mg:Str->Option Value} {base:Heap} {f:Addr} {fd:FuncData}
abbrev jX:Stmt:=top 4
abbrev mQ:List Str:=["things", "marks", "thing"]
def scmarked:FnScope mQ ["things"] (am jX):=⟨rfl,rfl,rfl,by decide +kernel,rfl,by decide +kernel,by decide +kernel⟩
def kq:MS:=(bY 1 (ae 2) (eC (.bool true)))
def jY:MS:=(ak (ay 1 kE)
 (ak (cF (cG (ae 0)) (gN 2) kq)
 (aN (eMv 1))))
def dZ:List D->Option (D × En):=fnF 2 [0] jY
def pY {k:Nat} (T:Bl mg)   (F:Fun K "marked" "marked" jX f fd):FnOk P w K mg base CX0 (k+1) f fd ["things"] (spF K [0] 1 dZ):=by
 have nd:=scmarked.nd;refine F.okQ (N:=mQ) (b:=jY) (J:=⟨[],[0,0,0],1,[]⟩) (ds0:=[0,0,0]) scmarked rfl rfl rfl rfl fun cdv A outer s H E hr=>?_;exact (ag (aK 1 [0,1,0] nd (cZ (d':=1) oY (by decide)) rfl rfl rfl) (ag (bt (ds1:=[0,1,0]) rfl (bv (K:=K) rfl (fv 0 rfl rfl)) (aB (i:=2) (ds':=[0,1,0]) nd rfl (.inl rfl) rfl (by decide) (by decide) (.inl rfl)) (aD (gf (i:=1) (jk hr) rfl (.inl rfl) (fs0 bZ) (fv 2 rfl rfl) rfl rfl rfl rfl)) PassesOwn.never (fun _=>rfl)) (frt (xZ (i:=1) (ds':=[0,0,0]) rfl (.inl rfl) rfl rfl rfl rfl) rfl)))
abbrev iW:Stmt:=top 5
abbrev lL:List Str:=["first", "goes", "seen", "ahead", "here", "there"]
def screached:FnScope lL ["first", "goes"] (am iW):=⟨rfl,rfl,rfl,by decide +kernel,rfl,by decide +kernel,by decide +kernel⟩
def cL:MS:=(sIf (cI (tV (e2 eo (ae 5) (eC .none))) (tV (e2 fL (ae 5) (ae 2)))) (ak (bY 2 (ae 5) (eC (.bool true)))
 (dz (dB 3 (ae 5)))) be)
def jA:MS:=(ak (ay 4 (gZ 3))
 (cF (cG (e2 ixA (ae 1) (ae 4))) (gN 5) cL))
def gq:MT:=(tV (e2 gtI (eN bC (af (ae 3) ai)) (eC (.int 0))))
noncomputable def i3:MS:=(ak (ay 2 (av dZ (af (ae 0) ai)))
 (ak (ay 3 (eN fX (af (ae 0) ai)))
 (ak (bB gq jA)
 (aN (eN i5 (af (ae 2) ai))))))
noncomputable def bV:List D->Option (D × En):=fnF 4 [0,0] i3
def nZ {k:Nat} (T:Bl mg)  (yx:Kn P w K mg base k "marked" ["things"] (spF K [0] 1 dZ)) (F:Fun K "reached" "reached" iW f fd):FnOk P w K mg base CX0 (k+1) f fd ["first", "goes"] (spF K [0,0] 1 bV):=by
 have nd:=screached.nd;refine F.okQ (N:=lL) (b:=i3) (J:=⟨[],[0,0,0,0,0,0],1,[]⟩) (ds0:=[0,0,0,0,0,0]) screached rfl rfl rfl rfl fun cdv A outer s H E hr=>?_;exact (ag (aK 2 [0,0,1,0,0,0] nd (fnn yx hr (aa (fv 0 rfl rfl) ac rfl) rfl rfl) rfl rfl rfl) (ag (aK 3 [0,0,1,1,0,0] nd (fct (jK (K:=K) rfl rfl) T.list0 (by decide +kernel) (aa (fv 0 rfl rfl) ac rfl) rfl rfl) rfl rfl rfl) (ag (iF (ds:=[0,0,1,1,0,0]) (du (ds0:=[0,0,1,0,0,0]) (a6 jm (fln rfl T.len0 (aa (fv 3 rfl rfl) ac rfl) rfl rfl) ah (ba _)) rfl) (ag (aK 4 [0,0,1,1,0,0] nd (qC (K:=K) (i:=3) (d:=1) rfl rfl (.inl rfl) rfl (by decide) rfl rfl rfl rfl rfl) rfl rfl rfl) (aD (bt (ds1:=[0,0,1,1,0,0]) rfl (bv (K:=K) rfl (dX (iw (K:=K) rfl) (fv 1 rfl rfl) (fv 4 rfl rfl) (fun _ _=>rfl))) (aB (i:=5) (ds':=[0,0,1,1,0,0]) nd rfl (.inl rfl) rfl (by decide) (by decide) (.inl rfl)) (aD (aX (ds2:=[0,0,1,1,0,0]) (du (ds0:=[0,0,0,1,0,0]) (qpt (gb (a6 jJ (fv 5 rfl rfl) c7 (ba _)) (eX (kb (jk hr) (fv 5 rfl rfl) (fv 2 rfl rfl) (by with_unfolding_all rfl))))) rfl) (ag (gf (i:=2) (jk hr) rfl (.inl rfl) (fs0 bZ) (fv 5 rfl rfl) rfl rfl rfl rfl) (aD (cy (eG (K:=K) (i:=3) (d:=1) rfl rfl (.inl rfl) rfl (fv 5 rfl rfl) (by decide) rfl rfl rfl rfl rfl rfl rfl rfl) rfl))) aP)) PassesOwn.never (fun _=>rfl)))) PassesOwn.never) (frt (fcb (lr (K:=K) rfl rfl) T.sorted0 (by decide +kernel) (aa (cz (ds0:=[0,0,0,1,0,0]) (bw (p:=false) (i:=2) rfl (.inl rfl) rfl rfl rfl) rfl) ac rfl) rfl rfl) rfl))))
abbrev qT:Stmt:=top 1
abbrev Cr:List Str:=["machine"]
def scmet:FnScope Cr ["machine"] (am qT):=⟨rfl,rfl,rfl,by decide +kernel,rfl,by decide +kernel,by decide +kernel⟩
noncomputable def qW:MS:=(aN (av bV (af (aY (af (eC (.int 0)) ai)) (af (e2 ixA (ae 0) (eC (.int 1))) ai))))
noncomputable def fy:List D->Option (D × En):=fnF 0 [0] qW
def CK {k:Nat} (T:Bl mg)  (iY:Kn P w K mg base k "reached" ["first", "goes"] (spF K [0,0] 1 bV)) (F:Fun K "met" "met" qT f fd):FnOk P w K mg base CX0 (k+1) f fd ["machine"] (spF K [0] 1 fy):=by
 have nd:=scmet.nd;refine F.okQ (N:=Cr) (b:=qW) (J:=⟨[],[0],1,[]⟩) (ds0:=[0]) scmet rfl rfl rfl rfl fun cdv A outer s H E hr=>?_;exact (frt (fnn iY hr (aa (fs0 (aJ (d:=3) (c:=3) (aa ah ac rfl) rfl rfl (by decide))) (aa (fxi rfl (fv 0 rfl rfl)) ac rfl) rfl) rfl rfl) rfl)
abbrev dS:Stmt:=top 3
abbrev gu:List Str:=["goes", "backs", "stand", "ways", "there"]
def scways_back:FnScope gu ["goes"] (am dS):=⟨rfl,rfl,rfl,by decide +kernel,rfl,by decide +kernel,by decide +kernel⟩
def ig:ME:=(aY ai)
def eP:MS:=(sIf (tV (e2 eo (ae 4) (eC .none))) (dz (gm 1 (pIx 1 (iP 1) (ae 4)) (ae 2))) be)
def ib:MS:=(cF (cG (ae 3)) (gN 4) eP)
def gx:MS:=(ak (ay 1 (eLC true (cG (ae 0)) (gN 0) cY ig [none]))
 (ak (cF (eE (af (ae 0) ai)) (gT (gsC (gN 2) (gsC (gN 3) gs0))) ib)
 (aN (ae 1))))
def b5:List D->Option (D × En):=fnF 4 [0] gx
def lW {k:Nat} (T:Bl mg)   (F:Fun K "ways_back" "ways_back" dS f fd):FnOk P w K mg base CX0 (k+1) f fd ["goes"] (spF K [0] 0 b5):=by
 have nd:=scways_back.nd;refine F.okQ (N:=gu) (b:=gx) (J:=⟨[],[0,0,0,0,0],0,[]⟩) (ds0:=[0,0,0,0,0]) scways_back rfl rfl rfl rfl fun cdv A outer s H E hr=>?_;exact (ag (eZ (ds1:=[0,2,0,0,0]) (df (i:=1) (ds':=[0,3,0,0,0]) (cd:=3) (d:=3) (dsi:=[0]) (lk:=[]) nd rfl rfl (BlkOkC.of (ns:=["ways"]) (js:=[none]) (N0:=gu) (sc0:=am dS) rfl rfl (by decide +kernel)) rfl (bv (K:=K) rfl (fv 0 rfl rfl)) (fun _ _ _ _ _=>(aB (i:=0) (ds':=[0]) (show (["ways"]:List Str).Nodup by decide +kernel) rfl (.inl rfl) rfl (by decide) (by decide) (.inr rfl))) (fun _ _ _ _ _=>bR) (fun _ _ _ _ _=>(aJ (d:=3) (c:=3) ac rfl rfl (by decide))) rfl rfl rfl (by decide) rfl (by decide) (by decide) rfl (fun _=>rfl)) rfl) (ag (bt (ds1:=[0,2,0,0,0]) rfl (gX (K:=K) rfl rfl T.enumerate0 (aa (fv 0 rfl rfl) ac rfl) rfl) (dv (K:=K) rfl rfl (aW (aB (i:=2) (ds':=[0,2,0,0,0]) nd rfl (.inl rfl) rfl (by decide) (by decide) (.inl rfl)) (aW (aB (i:=3) (ds':=[0,2,0,0,0]) nd rfl (.inl rfl) rfl (by decide) (by decide) (.inl rfl)) cH rfl) rfl) fI rfl rfl) (aD (bt (ds1:=[0,2,0,0,0]) rfl (bv (K:=K) rfl (fv 3 rfl rfl)) (aB (i:=4) (ds':=[0,2,0,0,0]) nd rfl (.inl rfl) rfl (by decide) (by decide) (.inl rfl)) (aD (aX (ds2:=[0,2,0,0,0]) (a6 jJ (fv 4 rfl rfl) c7 (ba _)) (aD (cy (o7 (K:=K) (i:=1) (d:=2) rfl rfl rfl (qu (i:=1) (d:=2) rfl rfl (oR (i:=1) rfl (.inl rfl) rfl rfl) (fv 4 rfl rfl) (by decide) (by first | exact .inl rfl | exact .inr rfl) (fun _ _=>rfl)) (fv 2 rfl rfl) (by decide) rfl rfl rfl rfl rfl rfl) rfl)) aP)) PassesOwn.never (fun _=>rfl))) PassesOwn.never (fun _=>rfl)) (frt (cz (ds0:=[0,0,0,0,0]) (bw (p:=false) (i:=1) rfl (.inl rfl) rfl rfl rfl) rfl) rfl)))
abbrev jx:Stmt:=top 2
abbrev lO:List Str:=["machine", "ends"]
def scalive:FnScope lO ["machine"] (am jx):=⟨rfl,rfl,rfl,by decide +kernel,rfl,by decide +kernel,by decide +kernel⟩
noncomputable def lJ:MT:=(tV (e2 ixA (ae 1) (ae 0)))
noncomputable def lQ:ME:=(ae 0)
noncomputable def lT:MS:=(ak (ay 1 (e2 ixA (ae 0) (eC (.int 0))))
 (aN (av bV (af (eLC true (bP (af (eN bC (af (ae 1) ai)) ai)) (gN 0) lJ lQ [none,some 1]) (af (av b5 (af (e2 ixA (ae 0) (eC (.int 1))) ai)) ai)))))
noncomputable def ce:List D->Option (D × En):=fnF 1 [0] lT
def xh {k:Nat} (T:Bl mg)  (iY:Kn P w K mg base k "reached" ["first", "goes"] (spF K [0,0] 1 bV)) (nH:Kn P w K mg base k "ways_back" ["goes"] (spF K [0] 0 b5)) (F:Fun K "alive" "alive" jx f fd):FnOk P w K mg base CX0 (k+1) f fd ["machine"] (spF K [0] 1 ce):=by
 have nd:=scalive.nd;refine F.okQ (N:=lO) (b:=lT) (J:=⟨[],[0,0],1,[]⟩) (ds0:=[0,0]) scalive rfl rfl rfl rfl fun cdv A outer s H E hr=>?_;exact (ag (e5 (i:=1) (d:=0) (ds':=[0,0]) nd rfl (.inr rfl) (fxi rfl (fv 0 rfl rfl)) rfl (by decide) (by decide) rfl (.inl rfl)) (frt (fnn iY hr (aa (fs0 (c8 (cd:=0) (d:=1) (dsi:=[0,0]) (lk:=[1]) (BlkOkC.of (ns:=["stand", "ends"]) (js:=[none,some 1]) (N0:=lO) (sc0:=am jx) rfl rfl (by decide +kernel)) rfl (bT rfl T.range0 (aa (fs0 (fln rfl T.len0 (aa (fvc 1 rfl rfl) ac rfl) rfl rfl)) ac rfl) rfl) (fun _ _ _ _ _=>(aB (i:=0) (ds':=[0,0]) (show (["stand", "ends"]:List Str).Nodup by decide +kernel) rfl (.inl rfl) rfl (by decide) (by decide) (.inr rfl))) (fun _ _ _ _ _=>(eY (dq (dX (iw (K:=K) rfl) (fvc 1 rfl rfl) (fv 0 rfl rfl) (fun _ _=>rfl)) (fun _=>rfl)))) (fun _ _ _ _ _=>(fv 0 rfl rfl)) rfl rfl (by decide) rfl (fun _=>rfl))) (aa (fnn nH hr (aa (fxi rfl (fv 0 rfl rfl)) ac rfl) rfl rfl) ac rfl) rfl) rfl rfl) rfl))
abbrev h9:Stmt:=top 7
abbrev ko:List Str:=["_law_script", "_law_k", "_law_cell", "_law_far"]
def sc_law_pen:FnScope ko ["_law_script", "_law_k"] (am h9):=⟨rfl,rfl,rfl,by decide +kernel,rfl,by decide +kernel,by decide +kernel⟩
def bu:MS:=(ak (ay 2 (e2 aZ (e2 bK (eC (.int 40009)) (ae 1)) (eC (.int 7))))
 (ak (sIf (tV (e2 gtI (eN bC (af (ae 0) ai)) (eC (.int 0)))) (ay 2 (e2 aZ (e2 ixA (ae 0) (e2 bn (ae 1) (eN bC (af (ae 0) ai)))) (e2 bK (eC (.int 65003)) (e2 e6 (ae 1) (eN bC (af (ae 0) ai)))))) be)
 (ak (ay 3 (eC (.int 0)))
 (ak (sIf (tV (e2 geI (eN gp (af (ae 2) ai)) (e2 jE (eC (.int 10)) (eC (.int 18))))) (ay 3 (eN gp (af (ae 2) ai))) be)
 (aN (aY (af (ae 3) (af (e2 bn (e2 aZ (e2 aZ (e2 bK (e2 bn (ae 2) (eC (.int 2147483629))) (eC (.int 48271))) (e2 bK (eC (.int 69621)) (ae 1))) (eC (.int 1))) (eC (.int 2147483647))) ai))))))))
def F_law_pen:List D->Option (D × En):=fnF 2 [0,0] bu
def m5 {k:Nat} (T:Bl mg)   (F:Fun K "_law_pen" "_law_pen" h9 f fd):FnOk P w K mg base CX0 (k+1) f fd ["_law_script", "_law_k"] (spF K [0,0] 1 F_law_pen):=by
 have nd:=sc_law_pen.nd;refine F.okQ (N:=ko) (b:=bu) (J:=⟨[],[0,0,0,0],1,[]⟩) (ds0:=[0,0,0,0]) sc_law_pen rfl rfl rfl rfl fun cdv A outer s H E hr=>?_;exact (ag (aK 2 [0,0,0,0] nd (fs0 (ao bh (ao fJ ah (fv 1 rfl rfl)) ah)) rfl rfl rfl) (ag (aX (ds2:=[0,0,0,0]) (a6 jm (fln rfl T.len0 (aa (fv 0 rfl rfl) ac rfl) rfl rfl) ah (ba _)) (aD (aK 2 [0,0,0,0] nd (fs0 (ao bh (dX (iw (K:=K) rfl) (fv 0 rfl rfl) (ao cb (fv 1 rfl rfl) (fln rfl T.len0 (aa (fv 0 rfl rfl) ac rfl) rfl rfl)) (fun _ _=>rfl)) (ao fJ ah (ao iy (fv 1 rfl rfl) (fln rfl T.len0 (aa (fv 0 rfl rfl) ac rfl) rfl rfl))))) rfl rfl rfl)) aP) (ag (aK 3 [0,0,0,0] nd (fs0 ah) rfl rfl rfl) (ag (aX (ds2:=[0,0,0,0]) (a6 C0 (fcb oU T.abs0 (by decide +kernel) (aa (fv 2 rfl rfl) ac rfl) rfl rfl) (ao BK ah ah) (ba _)) (aD (aK 3 [0,0,0,0] nd (fs0 (fcb oU T.abs0 (by decide +kernel) (aa (fv 2 rfl rfl) ac rfl) rfl rfl)) rfl rfl rfl)) aP) (frt (aJ (d:=1) (c:=0) (aa (fv 3 rfl rfl) (aa (ao cb (ao bh (ao bh (ao fJ (ao cb (fv 2 rfl rfl) ah) ah) (ao fJ ah (fv 1 rfl rfl))) ah) ah) ac rfl) rfl) rfl rfl (by decide)) rfl)))))
abbrev gt:Stmt:=top 8
abbrev jz:List Str:=["_law_pen_here", "_law_many", "_law_digit", "_law_one"]
def sc_law_take:FnScope jz ["_law_pen_here", "_law_many"] (am gt):=⟨rfl,rfl,rfl,by decide +kernel,rfl,by decide +kernel,by decide +kernel⟩
def b6:MS:=(ak (sIf (tV (e2 gtI (gj 0 (eC (.int 0))) (eC (.int 0)))) (ak (ay 2 (e2 bn (gj 0 (eC (.int 0))) (ae 1)))
 (ak (dM 0 (eC (.int 0)) (e2 e6 (gj 0 (eC (.int 0))) (ae 1)))
 (aN (ae 2)))) be)
 (ak (ay 3 (e2 bn (e2 aZ (e2 bK (gj 0 (eC (.int 1))) (eC (.int 69621))) (eC (.int 11))) (eC (.int 2147483629))))
 (ak (dM 0 (eC (.int 1)) (ae 3))
 (aN (e2 bn (e2 e6 (e2 bn (e2 aZ (e2 bK (ae 3) (e2 aZ (e2 bn (ae 3) (eC (.int 65519))) (eC (.int 3)))) (e2 e6 (ae 3) (eC (.int 65519)))) (eC (.int 2147483587))) (eC (.int 64))) (ae 1))))))
def ax:List D->Option (D × En):=fnF 2 [1,0] b6
def lX {k:Nat} (T:Bl mg)   (F:Fun K "_law_take" "_law_take" gt f fd):FnOk P w K mg base CX0 (k+1) f fd ["_law_pen_here", "_law_many"] (spF K [1,0] 0 ax):=by
 have nd:=sc_law_take.nd;refine F.okQ (N:=jz) (b:=b6) (J:=⟨[0],[1,0,0,0],0,[]⟩) (ds0:=[1,0,0,0]) sc_law_take rfl rfl rfl rfl fun cdv A outer s H E hr=>?_;exact (ag (aX (ds2:=[1,0,0,0]) (a6 jm (gg (K:=K) (i:=0) rfl rfl (.inl rfl) rfl ah (fun _ _=>rfl) rfl rfl) ah (ba _)) (ag (aK 2 [1,0,0,0] nd (fs0 (ao cb (gg (K:=K) (i:=0) rfl rfl (.inl rfl) rfl ah (fun _ _=>rfl) rfl rfl) (fv 1 rfl rfl))) rfl rfl rfl) (ag (dP (i:=0) (d:=1) (c:=0) rfl (.inl rfl) (fs0 (ao iy (gg (K:=K) (i:=0) rfl rfl (.inl rfl) rfl ah (fun _ _=>rfl) rfl rfl) (fv 1 rfl rfl))) ah rfl (by decide) rfl rfl rfl (fun _=>rfl) rfl rfl rfl) (frt (fv 2 rfl rfl) rfl))) aP) (ag (aK 3 [1,0,0,0] nd (fs0 (ao cb (ao bh (ao fJ (gg (K:=K) (i:=0) rfl rfl (.inl rfl) rfl ah (fun _ _=>rfl) rfl rfl) ah) ah) ah)) rfl rfl rfl) (ag (dP (i:=0) (d:=1) (c:=0) rfl (.inl rfl) (fv 3 rfl rfl) ah rfl (by decide) rfl rfl rfl (fun _=>rfl) rfl rfl rfl) (frt (fs0 (ao cb (ao iy (ao cb (ao bh (ao fJ (fv 3 rfl rfl) (ao bh (ao cb (fv 3 rfl rfl) ah) ah)) (ao iy (fv 3 rfl rfl) ah)) ah) ah) (fv 1 rfl rfl))) rfl))))
abbrev ck:Stmt:=top 9
abbrev dI:List Str:=["_law_pen_here", "_law_most", "_law_signs", "_law_many", "_law_nones", "_law_shape", "_law_goes", "_law_stand", "_law_row", "_law_number", "_law_there", "_law_way", "_law_ends"]
def sc_law_machine:FnScope dI ["_law_pen_here", "_law_most", "_law_signs"] (am ck):=⟨rfl,rfl,rfl,by decide +kernel,rfl,by decide +kernel,by decide +kernel⟩
def cN:MS:=(ak (ay 10 (av ax (aS 0 (af (ae 3) ai))))
 (ak (sIf (cI (tV (e2 eqD (ae 5) (eC (.int 1)))) (tV (e2 eqD (ae 9) (eC (.int 0))))) (ay 10 (e2 bn (e2 aZ (ae 7) (eC (.int 1))) (ae 3))) be)
 (ak (sIf (tV (e2 eqD (ae 5) (eC (.int 2)))) (ay 10 (eN m7 (af (eC (.int 0)) (af (e2 fR (ae 7) (e2 bn (ae 10) (eC (.int 3)))) ai)))) be)
 (ak (sIf (tV (e2 ltI (av ax (aS 0 (af (eC (.int 12)) ai))) (ae 4))) (ay 10 (eC .none)) be)
 (dz (dB 8 (ae 10)))))))
def cM:MS:=(ak (ay 8 (aY ai))
 (ak (cF (bP (af (ae 2) ai)) (gN 9) cN)
 (dz (dB 6 (ae 8)))))
def e7:ME:=(eOr (e2 eqD (ae 2) (eC (.int 1))) (dC (e2 gtI (ae 2) (eC (.int 2))) (e2 eqD (av ax (aS 1 (af (ae 2) ai))) (eC (.int 0)))))
def dL:MS:=(ak (ay 3 (e2 aZ (eC (.int 1)) (av ax (aS 0 (af (ae 1) ai)))))
 (ak (ay 4 (e2 ixA (aY (af (eC (.int 0)) (af (eC (.int 1)) (af (eC (.int 5)) (af (eC (.int 9)) ai))))) (av ax (aS 0 (af (eC (.int 4)) ai)))))
 (ak (ay 5 (av ax (aS 0 (af (eC (.int 4)) ai))))
 (ak (ay 6 (aY ai))
 (ak (cF (bP (af (ae 3) ai)) (gN 7) cM)
 (ak (ay 11 (av ax (aS 0 (af (eC (.int 7)) ai))))
 (ak (ay 12 (eLC false (bP (af (ae 3) ai)) (gN 0) cY e7 [none,some 0,some 11]))
 (ak (sIf (tV (e2 eqD (ae 11) (eC (.int 2)))) (dM 12 (av ax (aS 0 (af (ae 3) ai))) (eC (.bool true))) be)
 (aN (fg (af (ae 12) (af (ae 6) ai))))))))))))
def bg:List D->Option (D × En):=fnF 10 [1,0,0] dL
def jF {k:Nat} (T:Bl mg)  (aE:Kn P w K mg base k "_law_take" ["_law_pen_here", "_law_many"] (spF K [1,0] 0 ax)) (F:Fun K "_law_machine" "_law_machine" ck f fd):FnOk P w K mg base CX0 (k+1) f fd ["_law_pen_here", "_law_most", "_law_signs"] (spF K [1,0,0] 0 bg):=by
 have nd:=sc_law_machine.nd;refine F.okQ (N:=dI) (b:=dL) (J:=⟨[0],[1,0,0,0,0,0,0,0,0,0,0,0,0],0,[]⟩) (ds0:=[1,0,0,0,0,0,0,0,0,0,0,0,0]) sc_law_machine rfl rfl rfl rfl fun cdv A outer s H E hr=>?_;exact (ag (aK 3 [1,0,0,0,0,0,0,0,0,0,0,0,0] nd (fs0 (ao bh ah (fns aE hr (gU 0 (aa (fv 1 rfl rfl) ac rfl) rfl) rfl rfl))) rfl rfl rfl) (ag (aK 4 [1,0,0,0,0,0,0,0,0,0,0,0,0] nd (fs0 (qF (K:=K) rfl (aJ (d:=3) (c:=3) (aa ah (aa ah (aa ah (aa ah ac rfl) rfl) rfl) rfl) rfl rfl (by decide)) (fns aE hr (gU 0 (aa (fs0 ah) ac rfl) rfl) rfl rfl) (fun _ _=>rfl) (by decide))) rfl rfl rfl) (ag (aK 5 [1,0,0,0,0,0,0,0,0,0,0,0,0] nd (fns aE hr (gU 0 (aa (fs0 ah) ac rfl) rfl) rfl rfl) rfl rfl rfl) (ag (aK 6 [1,0,0,0,0,0,1,0,0,0,0,0,0] nd (cZ (d':=1) (aJ (d:=3) (c:=3) ac rfl rfl (by decide)) (by decide)) rfl rfl rfl) (ag (bt (ds1:=[1,0,0,0,0,0,1,0,0,0,0,0,0]) rfl (bT rfl T.range0 (aa (fv 3 rfl rfl) ac rfl) rfl) (aB (i:=7) (ds':=[1,0,0,0,0,0,1,0,0,0,0,0,0]) nd rfl (.inl rfl) rfl (by decide) (by decide) (.inl rfl)) (ag (aK 8 [1,0,0,0,0,0,1,0,1,0,0,0,0] nd (cZ (d':=1) (aJ (d:=3) (c:=3) ac rfl rfl (by decide)) (by decide)) rfl rfl rfl) (ag (bt (ds1:=[1,0,0,0,0,0,1,0,1,0,0,0,0]) rfl (bT rfl T.range0 (aa (fv 2 rfl rfl) ac rfl) rfl) (aB (i:=9) (ds':=[1,0,0,0,0,0,1,0,1,0,0,0,0]) nd rfl (.inl rfl) rfl (by decide) (by decide) (.inl rfl)) (ag (aK 10 [1,0,0,0,0,0,1,0,1,0,0,0,0] nd (fns aE hr (gU 0 (aa (fv 3 rfl rfl) ac rfl) rfl) rfl rfl) rfl rfl rfl) (ag (aX (ds2:=[1,0,0,0,0,0,1,0,1,0,0,0,0]) (qpt (gb (fte rfl hr.units (fv 5 rfl rfl) ah) (eX (fte rfl hr.units (fv 9 rfl rfl) ah)))) (aD (aK 10 [1,0,0,0,0,0,1,0,1,0,0,0,0] nd (fs0 (ao cb (ao bh (fv 7 rfl rfl) ah) (fv 3 rfl rfl))) rfl rfl rfl)) aP) (ag (aX (ds2:=[1,0,0,0,0,0,1,0,1,0,0,0,0]) (fte rfl hr.units (fv 5 rfl rfl) ah) (aD (aK 10 [1,0,0,0,0,0,1,0,1,0,0,0,0] nd (fs0 (fcb (xQ rfl) T.max0 (by decide +kernel) (aa (fs0 ah) (aa (fs0 (ao jl (fv 7 rfl rfl) (ao cb (fv 10 rfl rfl) ah))) ac rfl) rfl) rfl rfl)) rfl rfl rfl)) aP) (ag (aX (ds2:=[1,0,0,0,0,0,1,0,1,0,0,0,0]) (a6 CY (fns aE hr (gU 0 (aa (fs0 ah) ac rfl) rfl) rfl rfl) (fv 4 rfl rfl) (ba _)) (aD (aK 10 [1,0,0,0,0,0,1,0,1,0,0,0,0] nd (fs0 c7) rfl rfl rfl)) aP) (aD (cy (eG (K:=K) (i:=8) (d:=1) rfl rfl (.inl rfl) rfl (fv 10 rfl rfl) (by decide) rfl rfl rfl rfl rfl rfl rfl rfl) rfl)))))) PassesOwn.never (fun _=>rfl)) (aD (cy (eG (K:=K) (i:=6) (d:=1) rfl rfl (.inl rfl) rfl (cz (ds0:=[1,0,0,0,0,0,1,0,0,0,0,0,0]) (bw (p:=false) (i:=8) rfl (.inl rfl) rfl rfl rfl) rfl) (by decide) rfl rfl rfl rfl rfl rfl rfl rfl) rfl)))) PassesOwn.never (fun _=>rfl)) (ag (e5 (i:=11) (d:=0) (ds':=[1,0,0,0,0,0,1,0,0,0,0,0,0]) nd rfl (.inr rfl) (fns aE hr (gU 0 (aa (fs0 ah) ac rfl) rfl) rfl rfl) rfl (by decide) (by decide) rfl (.inl rfl)) (ag (eZ (ds1:=[1,0,0,0,0,0,1,0,0,0,0,0,1]) (df (i:=12) (ds':=[1,0,0,0,0,0,1,0,0,0,0,0,3]) (cd:=3) (d:=3) (dsi:=[0,1,0]) (lk:=[1,2]) nd rfl rfl (BlkOkC.of (ns:=["_law_stand", "_law_pen_here", "_law_way"]) (js:=[none,some 0,some 11]) (N0:=dI) (sc0:=am ck) rfl rfl (by decide +kernel)) rfl (bT rfl T.range0 (aa (fv 3 rfl rfl) ac rfl) rfl) (fun _ _ _ _ _=>(aB (i:=0) (ds':=[0,1,0]) (show (["_law_stand", "_law_pen_here", "_law_way"]:List Str).Nodup by decide +kernel) rfl (.inl rfl) rfl (by decide) (by decide) (.inr rfl))) (fun _ _ _ _ _=>bR) (fun _ _ _ _ _=>(xY (c9 (iz (K:=K) rfl hr.units) (fvc 2 rfl rfl) ah (ba _)) (eF (eI (c9 jm (fvc 2 rfl rfl) ah (ba _)) (eF (c9 (iz (K:=K) rfl hr.units) (fns aE hr (gU 1 (aa (fvc 2 rfl rfl) ac rfl) rfl) rfl rfl) ah (ba _))))))) rfl rfl rfl (by decide) rfl (by decide) (by decide) rfl (fun _=>rfl)) rfl) (ag (aX (ds2:=[1,0,0,0,0,0,1,0,0,0,0,0,1]) (fte rfl hr.units (fvc 11 rfl rfl) ah) (aD (dP (i:=12) (d:=1) (c:=0) rfl (.inl rfl) (fs0 bZ) (fns aE hr (gU 0 (aa (fv 3 rfl rfl) ac rfl) rfl) rfl rfl) rfl (by decide) rfl rfl rfl (fun _=>rfl) rfl rfl rfl)) aP) (frt (cX (d:=0) (c:=0) (aa (cz (ds0:=[1,0,0,0,0,0,1,0,0,0,0,0,0]) (bw (p:=false) (i:=12) rfl (.inl rfl) rfl rfl rfl) rfl) (aa (cz (ds0:=[1,0,0,0,0,0,0,0,0,0,0,0,0]) (bw (p:=false) (i:=6) rfl (.inl rfl) rfl rfl rfl) rfl) ac rfl) rfl) rfl rfl) rfl)))))))))
abbrev fu:Stmt:=top 10
abbrev iH:List Str:=["_law_thing"]
def sc_law_whole:FnScope iH ["_law_thing"] (am fu):=⟨rfl,rfl,rfl,by decide +kernel,rfl,by decide +kernel,by decide +kernel⟩
def fB:MS:=(aN (dC (e1 (az "int") (ae 0)) (jO (e1 (az "bool") (ae 0)))))
def bJ:List D->Option (D × En):=fnF 0 [0] fB
def kY {k:Nat} (T:Bl mg)   (F:Fun K "_law_whole" "_law_whole" fu f fd):FnOk P w K mg base CX0 (k+1) f fd ["_law_thing"] (spF K [0] 3 bJ):=by
 have nd:=sc_law_whole.nd;refine F.okQ (N:=iH) (b:=fB) (J:=⟨[],[0],3,[]⟩) (ds0:=[0]) sc_law_whole rfl rfl rfl rfl fun cdv A outer s H E hr=>?_;exact (frt (eI (iR (K:=K) (n:="int") rfl rfl T.isinstance0 rfl T.int0 (by decide +kernel) (by decide) (fv 0 rfl rfl) (by decide) rfl rfl rfl rfl) (eF (qD (iR (K:=K) (n:="bool") rfl rfl T.isinstance0 rfl T.bool0 (by decide +kernel) (by decide) (fv 0 rfl rfl) (by decide) rfl rfl rfl rfl)))) rfl)
abbrev dU:Stmt:=top 11
abbrev gw:List Str:=["_law_machine_here"]
def sc_law_copy:FnScope gw ["_law_machine_here"] (am dU):=⟨rfl,rfl,rfl,by decide +kernel,rfl,by decide +kernel,by decide +kernel⟩
def ii:ME:=(eN fX (af (ae 0) ai))
def gy:MS:=(aN (fg (af (eN fX (af (e2 ixA (ae 0) (eC (.int 0))) ai)) (af (eLC true (cG (e2 ixA (ae 0) (eC (.int 1)))) (gN 0) cY ii [none]) ai))))
def bo:List D->Option (D × En):=fnF 0 [0] gy
def lY {k:Nat} (T:Bl mg)   (F:Fun K "_law_copy" "_law_copy" dU f fd):FnOk P w K mg base CX0 (k+1) f fd ["_law_machine_here"] (spF K [0] 2 bo):=by
 have nd:=sc_law_copy.nd;refine F.okQ (N:=gw) (b:=gy) (J:=⟨[],[0],2,[]⟩) (ds0:=[0]) sc_law_copy rfl rfl rfl rfl fun cdv A outer s H E hr=>?_;exact (frt (cX (d:=2) (c:=1) (aa (fct (jK (K:=K) rfl rfl) T.list0 (by decide +kernel) (aa (fxi rfl (fv 0 rfl rfl)) ac rfl) rfl rfl) (aa (cZ (d':=1) (c8 (cd:=1) (d:=2) (dsi:=[0]) (lk:=[]) (BlkOkC.of (ns:=["_law_row"]) (js:=[none]) (N0:=gw) (sc0:=am dU) rfl rfl (by decide +kernel)) rfl (bv (K:=K) rfl (fxi rfl (fv 0 rfl rfl))) (fun _ _ _ _ _=>(aB (i:=0) (ds':=[0]) (show (["_law_row"]:List Str).Nodup by decide +kernel) rfl (.inl rfl) rfl (by decide) (by decide) (.inr rfl))) (fun _ _ _ _ _=>bR) (fun _ _ _ _ _=>(fct (jK (K:=K) rfl rfl) T.list0 (by decide +kernel) (aa (fv 0 rfl rfl) ac rfl) rfl rfl)) rfl rfl (by decide) rfl (fun _=>rfl)) (by decide)) ac rfl) rfl) rfl rfl) rfl)
abbrev cK:Stmt:=top 12
abbrev eK:List Str:=["_law_pairs", "_law_some", "_law_found", "_law_more", "_law_fresh", "_law_stand", "_law_there"]
def sc_law_closed:FnScope eK ["_law_pairs", "_law_some"] (am cK):=⟨rfl,rfl,rfl,by decide +kernel,rfl,by decide +kernel,by decide +kernel⟩
def fN:ME:=(fg (af (ae 0) (af (eC (.bool true)) ai)))
def b4:MS:=(sIf (cI (tV (e2 inL (ae 5) (ae 3))) (tV (e2 fL (ae 6) (ae 2)))) (ak (bY 2 (ae 6) (eC (.bool true)))
 (dz (dB 4 (ae 6)))) be)
def fM:MS:=(ak (ay 4 (aY ai))
 (ak (cF (cG (ae 0)) (gT (gsC (gN 5) (gsC (gN 6) gs0))) b4)
 (ay 3 (ae 4))))
def de:MT:=(tV (e2 neD (ae 3) (aY ai)))
noncomputable def eR:MS:=(ak (ay 2 (eN lz (af (eLC true (cG (ae 1)) (gN 0) cY fN [none]) ai)))
 (ak (ay 3 (jP 2))
 (ak (bB de fM)
 (aN (eN i5 (af (ae 2) ai))))))
noncomputable def aR:List D->Option (D × En):=fnF 5 [0,0] eR
def ku {k:Nat} (T:Bl mg)   (F:Fun K "_law_closed" "_law_closed" cK f fd):FnOk P w K mg base CX0 (k+1) f fd ["_law_pairs", "_law_some"] (spF K [0,0] 1 aR):=by
 have nd:=sc_law_closed.nd;refine F.okQ (N:=eK) (b:=eR) (J:=⟨[],[0,0,0,0,0,0,0],1,[]⟩) (ds0:=[0,0,0,0,0,0,0]) sc_law_closed rfl rfl rfl rfl fun cdv A outer s H E hr=>?_;exact (ag (aK 2 [0,0,1,0,0,0,0] nd (fct (qw (K:=K) rfl rfl) T.dict0 (by decide +kernel) (aa (fs0 (c8 (cd:=0) (d:=1) (dsi:=[0]) (lk:=[]) (BlkOkC.of (ns:=["_law_stand"]) (js:=[none]) (N0:=eK) (sc0:=am cK) rfl rfl (by decide +kernel)) rfl (bv (K:=K) rfl (fv 1 rfl rfl)) (fun _ _ _ _ _=>(aB (i:=0) (ds':=[0]) (show (["_law_stand"]:List Str).Nodup by decide +kernel) rfl (.inl rfl) rfl (by decide) (by decide) (.inr rfl))) (fun _ _ _ _ _=>bR) (fun _ _ _ _ _=>(cX (d:=0) (c:=0) (aa (fv 0 rfl rfl) (aa bZ ac rfl) rfl) rfl rfl)) rfl rfl (by decide) rfl (fun _=>rfl))) ac rfl) rfl rfl) rfl rfl rfl) (ag (aK 3 [0,0,1,0,0,0,0] nd (fs0 (qE (K:=K) (i:=2) rfl rfl rfl T.list0 rfl (.inl rfl) rfl rfl rfl)) rfl rfl rfl) (ag (iF (ds:=[0,0,1,0,0,0,0]) (ftn rfl hr.units (fv 3 rfl rfl) (aJ (d:=3) (c:=3) ac rfl rfl (by decide))) (ag (aK 4 [0,0,1,0,1,0,0] nd (cZ (d':=1) (aJ (d:=3) (c:=3) ac rfl rfl (by decide)) (by decide)) rfl rfl rfl) (ag (bt (ds1:=[0,0,1,0,1,0,0]) rfl (bv (K:=K) rfl (fv 0 rfl rfl)) (dv (K:=K) rfl rfl (aW (aB (i:=5) (ds':=[0,0,1,0,1,0,0]) nd rfl (.inl rfl) rfl (by decide) (by decide) (.inl rfl)) (aW (aB (i:=6) (ds':=[0,0,1,0,1,0,0]) nd rfl (.inl rfl) rfl (by decide) (by decide) (.inl rfl)) cH rfl) rfl) fI rfl rfl) (aD (aX (ds2:=[0,0,1,0,1,0,0]) (du (ds0:=[0,0,0,0,1,0,0]) (qpt (gb (a6 (CZ (K:=K) rfl hr.units) (fv 5 rfl rfl) (fv 3 rfl rfl) (by with_unfolding_all rfl)) (eX (kb (jk hr) (fv 6 rfl rfl) (fv 2 rfl rfl) (by with_unfolding_all rfl))))) rfl) (ag (gf (i:=2) (jk hr) rfl (.inl rfl) (fs0 bZ) (fv 6 rfl rfl) rfl rfl rfl rfl) (aD (cy (eG (K:=K) (i:=4) (d:=1) rfl rfl (.inl rfl) rfl (fv 6 rfl rfl) (by decide) rfl rfl rfl rfl rfl rfl rfl rfl) rfl))) aP)) PassesOwn.never (fun _=>rfl)) (aD (aK 3 [0,0,1,0,0,0,0] nd (cz (ds0:=[0,0,1,0,0,0,0]) (bw (p:=false) (i:=4) rfl (.inl rfl) rfl rfl rfl) rfl) rfl rfl rfl)))) PassesOwn.never) (frt (fcb (lr (K:=K) rfl rfl) T.sorted0 (by decide +kernel) (aa (cz (ds0:=[0,0,0,0,0,0,0]) (bw (p:=false) (i:=2) rfl (.inl rfl) rfl rfl rfl) rfl) ac rfl) rfl rfl) rfl))))
abbrev bx:Stmt:=top 13
abbrev bI:List Str:=["_law_machine_here", "_law_pairs", "_law_stand", "_law_row", "_law_back", "_law_ends", "_law_dues", "_law_handed", "_law_turn", "_law_found", "_law_some"]
def sc_law_right:FnScope bI ["_law_machine_here"] (am bx):=⟨rfl,rfl,rfl,by decide +kernel,rfl,by decide +kernel,by decide +kernel⟩
noncomputable def dH:MT:=(tV (e2 eo (ae 0) (eC .none)))
noncomputable def cr:ME:=(fg (af (ae 1) (af (ae 0) ai)))
noncomputable def gB:MS:=(ay 1 (e2 lH (ae 1) (eLC true (cG (ae 3)) (gN 0) dH cr [none,some 2])))
noncomputable def dG:MT:=(tV (ae 1))
noncomputable def cq:ME:=(ae 0)
noncomputable def gz:MT:=(hW (tV (av bJ (af (ae 0) ai))))
noncomputable def dJ:MS:=(ak (sIf (bOr (hW (tV (e1 (az "list") (ae 10)))) (tV (e2 neD (eLC true (cG (ae 10)) (gN 0) gz cq [none]) (aY ai)))) (aN (eC (.bool false))) be)
 (dz (dB 10 (eC (.int 0)))))
noncomputable def gA:MS:=(ak (ay 9 (aY (af (av fy (af (ae 7) ai)) (af (av ce (af (ae 7) ai)) ai))))
 (ak (sIf (bOr (tV (e2 neD (ae 9) (ae 6))) (tV (e2 neD (ae 7) (ae 0)))) (aN (eC (.bool false))) be)
 (im 9 10 dJ)))
noncomputable def fC:MS:=(ak (ay 1 (aY ai))
 (ak (cF (eE (af (e2 ixA (ae 0) (eC (.int 1))) ai)) (gT (gsC (gN 2) (gsC (gN 3) gs0))) gB)
 (ak (ay 4 (eLC true (cG (ae 1)) (gT (gsC (gN 0) (gsC (gN 1) gs0))) cY cr [none,none]))
 (ak (ay 5 (eLC true (eE (af (e2 ixA (ae 0) (eC (.int 0))) ai)) (gT (gsC (gN 0) (gsC (gN 1) gs0))) dG cq [none,none]))
 (ak (ay 6 (aY (af (av aR (af (ae 1) (af (aY (af (eC (.int 0)) ai)) ai))) (af (av aR (af (ae 4) (af (ae 5) ai))) ai))))
 (ak (ay 7 (av bo (af (ae 0) ai)))
 (ak (cF (bP (af (eC (.int 2)) ai)) (gN 8) gA)
 (aN (eC (.bool true))))))))))
noncomputable def aQ:List D->Option (D × En):=fnF 10 [0] fC
def kZ {k:Nat} (T:Bl mg)  (dW:Kn P w K mg base k "_law_copy" ["_law_machine_here"] (spF K [0] 2 bo)) (ie:Kn P w K mg base k "_law_closed" ["_law_pairs", "_law_some"] (spF K [0,0] 1 aR)) (qV:Kn P w K mg base k "met" ["machine"] (spF K [0] 1 fy)) (lP:Kn P w K mg base k "alive" ["machine"] (spF K [0] 1 ce)) (l8:Kn P w K mg base k "_law_whole" ["_law_thing"] (spF K [0] 3 bJ)) (F:Fun K "_law_right" "_law_right" bx f fd):FnOk P w K mg base CX0 (k+1) f fd ["_law_machine_here"] (spF K [0] 3 aQ):=by
 have nd:=sc_law_right.nd;refine F.okQ (N:=bI) (b:=fC) (J:=⟨[],[0,0,0,0,0,0,0,0,0,0,0],3,[]⟩) (ds0:=[0,0,0,0,0,0,0,0,0,0,0]) sc_law_right rfl rfl rfl rfl fun cdv A outer s H E hr=>?_;exact (ag (aK 1 [0,0,0,0,0,0,0,0,0,0,0] nd (fs0 (aJ (d:=3) (c:=3) ac rfl rfl (by decide))) rfl rfl rfl) (ag (bt (ds1:=[0,0,0,0,0,0,0,0,0,0,0]) rfl (gX (K:=K) rfl rfl T.enumerate0 (aa (fxi rfl (fv 0 rfl rfl)) ac rfl) rfl) (dv (K:=K) rfl rfl (aW (aB (i:=2) (ds':=[0,0,0,0,0,0,0,0,0,0,0]) nd rfl (.inr rfl) rfl (by decide) (by decide) (.inl rfl)) (aW (aB (i:=3) (ds':=[0,0,0,0,0,0,0,0,0,0,0]) nd rfl (.inl rfl) rfl (by decide) (by decide) (.inl rfl)) cH rfl) rfl) fI rfl rfl) (aD (aK 1 [0,0,0,0,0,0,0,0,0,0,0] nd (fs0 (ao (mG (K:=K) rfl) (fv 1 rfl rfl) (c8 (cd:=0) (d:=1) (dsi:=[0,0]) (lk:=[1]) (BlkOkC.of (ns:=["_law_there", "_law_stand"]) (js:=[none,some 2]) (N0:=bI) (sc0:=am bx) rfl rfl (by decide +kernel)) rfl (bv (K:=K) rfl (fv 3 rfl rfl)) (fun _ _ _ _ _=>(aB (i:=0) (ds':=[0,0]) (show (["_law_there", "_law_stand"]:List Str).Nodup by decide +kernel) rfl (.inl rfl) rfl (by decide) (by decide) (.inr rfl))) (fun _ _ _ _ _=>(eY (a6 jJ (fv 0 rfl rfl) c7 (ba _)))) (fun _ _ _ _ _=>(cX (d:=0) (c:=0) (aa (fvc 1 rfl rfl) (aa (fv 0 rfl rfl) ac rfl) rfl) rfl rfl)) rfl rfl (by decide) rfl (fun _=>rfl)))) rfl rfl rfl)) PassesOwn.never (fun _=>rfl)) (ag (eZ (ds1:=[0,0,0,0,0,0,0,0,0,0,0]) (df (i:=4) (ds':=[0,0,0,0,1,0,0,0,0,0,0]) (cd:=0) (d:=1) (dsi:=[0,0]) (lk:=[]) nd rfl rfl (BlkOkC.of (ns:=["_law_stand", "_law_there"]) (js:=[none,none]) (N0:=bI) (sc0:=am bx) rfl rfl (by decide +kernel)) rfl (bv (K:=K) rfl (fv 1 rfl rfl)) (fun _ _ _ _ _=>(dv (K:=K) rfl rfl (aW (aB (i:=0) (ds':=[0,0]) (show (["_law_stand", "_law_there"]:List Str).Nodup by decide +kernel) rfl (.inl rfl) rfl (by decide) (by decide) (.inr rfl)) (aW (aB (i:=1) (ds':=[0,0]) (show (["_law_stand", "_law_there"]:List Str).Nodup by decide +kernel) rfl (.inl rfl) rfl (by decide) (by decide) (.inr rfl)) cH rfl) rfl) fI rfl rfl)) (fun _ _ _ _ _=>bR) (fun _ _ _ _ _=>(cX (d:=0) (c:=0) (aa (fv 1 rfl rfl) (aa (fv 0 rfl rfl) ac rfl) rfl) rfl rfl)) rfl rfl rfl (by decide) rfl (by decide) (by decide) rfl (fun _=>rfl)) rfl) (ag (eZ (ds1:=[0,0,0,0,0,0,0,0,0,0,0]) (df (i:=5) (ds':=[0,0,0,0,0,1,0,0,0,0,0]) (cd:=0) (d:=1) (dsi:=[0,0]) (lk:=[]) nd rfl rfl (BlkOkC.of (ns:=["_law_stand", "_law_truth"]) (js:=[none,none]) (N0:=bI) (sc0:=am bx) rfl rfl (by decide +kernel)) rfl (gX (K:=K) rfl rfl T.enumerate0 (aa (fxi rfl (fv 0 rfl rfl)) ac rfl) rfl) (fun _ _ _ _ _=>(dv (K:=K) rfl rfl (aW (aB (i:=0) (ds':=[0,0]) (show (["_law_stand", "_law_truth"]:List Str).Nodup by decide +kernel) rfl (.inl rfl) rfl (by decide) (by decide) (.inr rfl)) (aW (aB (i:=1) (ds':=[0,0]) (show (["_law_stand", "_law_truth"]:List Str).Nodup by decide +kernel) rfl (.inl rfl) rfl (by decide) (by decide) (.inr rfl)) cH rfl) rfl) fI rfl rfl)) (fun _ _ _ _ _=>(eY (dq (fv 1 rfl rfl) (fun _=>rfl)))) (fun _ _ _ _ _=>(fv 0 rfl rfl)) rfl rfl rfl (by decide) rfl (by decide) (by decide) rfl (fun _=>rfl)) rfl) (ag (aK 6 [0,0,0,0,0,0,0,0,0,0,0] nd (fs0 (aJ (d:=2) (c:=1) (aa (fnn ie hr (aa (fv 1 rfl rfl) (aa (fs0 (aJ (d:=3) (c:=3) (aa ah ac rfl) rfl rfl (by decide))) ac rfl) rfl) rfl rfl) (aa (fnn ie hr (aa (fv 4 rfl rfl) (aa (fv 5 rfl rfl) ac rfl) rfl) rfl rfl) ac rfl) rfl) rfl rfl (by decide))) rfl rfl rfl) (ag (aK 7 [0,0,0,0,0,0,0,0,0,0,0] nd (fs0 (fnn dW hr (aa (fv 0 rfl rfl) ac rfl) rfl rfl)) rfl rfl rfl) (ag (bt (ds1:=[0,0,0,0,0,0,0,0,0,0,0]) rfl (bT rfl T.range0 (aa (fs0 ah) ac rfl) rfl) (aB (i:=8) (ds':=[0,0,0,0,0,0,0,0,0,0,0]) nd rfl (.inl rfl) rfl (by decide) (by decide) (.inl rfl)) (oK (ds2:=[0,0,0,0,0,0,0,0,0,2,1]) (ag (aK 9 [0,0,0,0,0,0,0,0,0,2,0] nd (aJ (d:=2) (c:=1) (aa (fnn qV hr (aa (fv 7 rfl rfl) ac rfl) rfl rfl) (aa (fnn lP hr (aa (fv 7 rfl rfl) ac rfl) rfl rfl) ac rfl) rfl) rfl rfl (by decide)) rfl rfl rfl) (ag (aX (ds2:=[0,0,0,0,0,0,0,0,0,2,0]) (du (ds0:=[0,0,0,0,0,0,0,0,0,0,0]) (qpt (mF (ftn rfl hr.units (fv 9 rfl rfl) (fv 6 rfl rfl)) (lp (ftn rfl hr.units (fv 7 rfl rfl) (fv 0 rfl rfl))))) rfl) (frt bZ rfl) aP) (aD (nw (K:=K) (i:=9) (j:=10) (ds1:=[0,0,0,0,0,0,0,0,0,2,1]) rfl rfl rfl (.inl rfl) rfl nd rfl (.inl rfl) rfl (by decide) (by decide) (.inl rfl) (ag (aX (ds2:=[0,0,0,0,0,0,0,0,0,2,1]) (du (ds0:=[0,0,0,0,0,0,0,0,0,2,0]) (qpt (mF (gS (dq (iR (K:=K) (n:="list") rfl rfl T.isinstance0 rfl T.list0 (by decide +kernel) (by decide) (fv 10 rfl rfl) (by decide) rfl rfl rfl rfl) (fun _=>rfl))) (lp (ftn rfl hr.units (c8 (cd:=0) (d:=1) (dsi:=[0]) (lk:=[]) (BlkOkC.of (ns:=["_law_stand"]) (js:=[none]) (N0:=bI) (sc0:=am bx) rfl rfl (by decide +kernel)) rfl (bv (K:=K) rfl (fv 10 rfl rfl)) (fun _ _ _ _ _=>(aB (i:=0) (ds':=[0]) (show (["_law_stand"]:List Str).Nodup by decide +kernel) rfl (.inl rfl) rfl (by decide) (by decide) (.inr rfl))) (fun _ _ _ _ _=>(eY (gS (dq (fnn l8 hr (aa (fv 0 rfl rfl) ac rfl) rfl rfl) (fun _=>rfl))))) (fun _ _ _ _ _=>(fv 0 rfl rfl)) rfl rfl (by decide) rfl (fun _=>rfl)) (aJ (d:=3) (c:=3) ac rfl rfl (by decide)))))) rfl) (frt bZ rfl) aP) (aD (cy (eG (K:=K) (i:=10) (d:=1) rfl rfl (.inl rfl) rfl (fs0 ah) (by decide) rfl rfl rfl rfl rfl rfl rfl rfl) rfl))) PassesOwn.never rfl rfl)))) rfl) PassesOwn.never (fun _=>rfl)) (frt bZ rfl))))))))
abbrev bj:Stmt:=top 14
abbrev bA:List Str:=["_law_pen_here", "_law_many", "_law_cut", "_law_end", "_law_goes", "_law_machine_here", "_law_due"]
def sc_law_chain_right:FnScope bA ["_law_pen_here"] (am bj):=⟨rfl,rfl,rfl,by decide +kernel,rfl,by decide +kernel,by decide +kernel⟩
noncomputable def cQ:ME:=(aY (af (e2 aZ (ae 0) (eC (.int 1))) ai))
noncomputable def cP:ME:=(e2 eqD (ae 0) (ae 1))
noncomputable def b7:MS:=(ak (ay 1 (e2 aZ (eC (.int 1)) (av ax (aS 0 (af (eC (.int 990)) ai)))))
 (ak (ay 2 (e2 ixA (aY (af (e2 fR (ae 1) (eC (.int 1))) (af (av ax (aS 0 (af (ae 1) ai))) ai))) (av ax (aS 0 (af (eC (.int 2)) ai)))))
 (ak (ay 3 (e2 ixA (aY (af (e2 fR (ae 1) (eC (.int 1))) (af (av ax (aS 0 (af (ae 1) ai))) ai))) (av ax (aS 0 (af (eC (.int 2)) ai)))))
 (ak (ay 4 (e2 lH (eLC true (bP (af (e2 fR (ae 1) (eC (.int 1))) ai)) (gN 0) cY cQ [none]) (aY (af (aY (af (eC .none) ai)) ai))))
 (ak (dM 4 (ae 2) (aY (af (eC .none) ai)))
 (ak (ay 5 (fg (af (eLC true (bP (af (ae 1) ai)) (gN 0) cY cP [none,some 3]) (af (ae 4) ai))))
 (ak (ay 6 (eN jc (af (e2 aZ (ae 3) (eC (.int 1))) ai)))
 (ak (sIf (tV (e2 gtI (ae 3) (ae 2))) (ay 6 (eSl nC (ae 6) (ja (e2 aZ (ae 2) (eC (.int 1)))) ky)) be)
 (aN (dC (e2 eqD (av fy (af (av bo (af (ae 5) ai)) ai)) (eN jc (af (e2 aZ (ae 2) (eC (.int 1))) ai))) (e2 eqD (av ce (af (av bo (af (ae 5) ai)) ai)) (ae 6))))))))))))
noncomputable def a5:List D->Option (D × En):=fnF 6 [1] b7
def gM {k:Nat} (T:Bl mg)  (aE:Kn P w K mg base k "_law_take" ["_law_pen_here", "_law_many"] (spF K [1,0] 0 ax)) (qV:Kn P w K mg base k "met" ["machine"] (spF K [0] 1 fy)) (lP:Kn P w K mg base k "alive" ["machine"] (spF K [0] 1 ce)) (dW:Kn P w K mg base k "_law_copy" ["_law_machine_here"] (spF K [0] 2 bo)) (F:Fun K "_law_chain_right" "_law_chain_right" bj f fd):FnOk P w K mg base CX0 (k+1) f fd ["_law_pen_here"] (spF K [1] 3 a5):=by
 have nd:=sc_law_chain_right.nd;refine F.okQ (N:=bA) (b:=b7) (J:=⟨[0],[1,0,0,0,0,0,0],3,[]⟩) (ds0:=[1,0,0,0,0,0,0]) sc_law_chain_right rfl rfl rfl rfl fun cdv A outer s H E hr=>?_;exact (ag (aK 1 [1,0,0,0,0,0,0] nd (fs0 (ao bh ah (fns aE hr (fsl 0 (aa (fs0 ah) ac rfl) rfl) rfl rfl))) rfl rfl rfl) (ag (aK 2 [1,0,0,0,0,0,0] nd (dX (iw (K:=K) rfl) (aJ (d:=1) (c:=0) (aa (ao jl (fv 1 rfl rfl) ah) (aa (fns aE hr (fsl 0 (aa (fv 1 rfl rfl) ac rfl) rfl) rfl rfl) ac rfl) rfl) rfl rfl (by decide)) (fns aE hr (fsl 0 (aa (fs0 ah) ac rfl) rfl) rfl rfl) (fun _ _=>rfl)) rfl rfl rfl) (ag (e5 (i:=3) (d:=0) (ds':=[1,0,0,0,0,0,0]) nd rfl (.inr rfl) (dX (iw (K:=K) rfl) (aJ (d:=1) (c:=0) (aa (ao jl (fv 1 rfl rfl) ah) (aa (fns aE hr (fsl 0 (aa (fv 1 rfl rfl) ac rfl) rfl) rfl rfl) ac rfl) rfl) rfl rfl (by decide)) (fns aE hr (fsl 0 (aa (fs0 ah) ac rfl) rfl) rfl rfl) (fun _ _=>rfl)) rfl (by decide) (by decide) rfl (.inl rfl)) (ag (aK 4 [1,0,0,0,1,0,0] nd (ao (mG (K:=K) rfl) (c8 (cd:=3) (d:=3) (dsi:=[0]) (lk:=[]) (BlkOkC.of (ns:=["_law_k"]) (js:=[none]) (N0:=bA) (sc0:=am bj) rfl rfl (by decide +kernel)) rfl (bT rfl T.range0 (aa (fs0 (ao jl (fv 1 rfl rfl) ah)) ac rfl) rfl) (fun _ _ _ _ _=>(aB (i:=0) (ds':=[0]) (show (["_law_k"]:List Str).Nodup by decide +kernel) rfl (.inl rfl) rfl (by decide) (by decide) (.inr rfl))) (fun _ _ _ _ _=>bR) (fun _ _ _ _ _=>(aJ (d:=3) (c:=3) (aa (ao bh (fv 0 rfl rfl) ah) ac rfl) rfl rfl (by decide))) rfl rfl (by decide) rfl (fun _=>rfl)) (aJ (d:=3) (c:=3) (aa (aJ (d:=3) (c:=3) (aa c7 ac rfl) rfl rfl (by decide)) ac rfl) rfl rfl (by decide))) rfl rfl rfl) (ag (dP (i:=4) (d:=1) (c:=0) rfl (.inl rfl) (fs0 (aJ (d:=3) (c:=3) (aa c7 ac rfl) rfl rfl (by decide))) (fv 2 rfl rfl) rfl (by decide) rfl rfl rfl (fun _=>rfl) rfl rfl rfl) (ag (aK 5 [1,0,0,0,0,0,0] nd (cX (d:=0) (c:=0) (aa (c8 (cd:=3) (d:=3) (dsi:=[0,0]) (lk:=[1]) (BlkOkC.of (ns:=["_law_k", "_law_end"]) (js:=[none,some 3]) (N0:=bA) (sc0:=am bj) rfl rfl (by decide +kernel)) rfl (bT rfl T.range0 (aa (fv 1 rfl rfl) ac rfl) rfl) (fun _ _ _ _ _=>(aB (i:=0) (ds':=[0,0]) (show (["_law_k", "_law_end"]:List Str).Nodup by decide +kernel) rfl (.inl rfl) rfl (by decide) (by decide) (.inr rfl))) (fun _ _ _ _ _=>bR) (fun _ _ _ _ _=>(c9 (iz (K:=K) rfl hr.units) (fv 0 rfl rfl) (fvc 1 rfl rfl) (ba _))) rfl rfl (by decide) rfl (fun _=>rfl)) (aa (cz (ds0:=[1,0,0,0,0,0,0]) (bw (p:=false) (i:=4) rfl (.inl rfl) rfl rfl rfl) rfl) ac rfl) rfl) rfl rfl) rfl rfl rfl) (ag (aK 6 [1,0,0,0,0,0,0] nd (fs0 (kc (K:=K) rfl rfl T.list0 rfl T.range0 (aa (fs0 (ao bh (fvc 3 rfl rfl) ah)) ac rfl) rfl rfl)) rfl rfl rfl) (ag (aX (ds2:=[1,0,0,0,0,0,0]) (a6 jm (fvc 3 rfl rfl) (fv 2 rfl rfl) (ba _)) (aD (aK 6 [1,0,0,0,0,0,0] nd (fs0 (ny (xS (K:=K) rfl) (fv 6 rfl rfl) (oS (ao bh (fv 2 rfl rfl) ah)) oT)) rfl rfl rfl)) aP) (frt (eI (c9 (iz (K:=K) rfl hr.units) (fnn qV hr (aa (fs0 (fnn dW hr (aa (fv 5 rfl rfl) ac rfl) rfl rfl)) ac rfl) rfl rfl) (kc (K:=K) rfl rfl T.list0 rfl T.range0 (aa (fs0 (ao bh (fv 2 rfl rfl) ah)) ac rfl) rfl rfl) (ba _)) (eF (c9 (iz (K:=K) rfl hr.units) (fnn lP hr (aa (fs0 (fnn dW hr (aa (fv 5 rfl rfl) ac rfl) rfl rfl)) ac rfl) rfl rfl) (fv 6 rfl rfl) (ba _)))) rfl)))))))))
abbrev iX:Stmt:=top 15
abbrev Cs:List Str:=["_law_script", "_law_pen_here", "_law_signs", "_law_one", "_law_other"]
def sclaw:FnScope Cs ["_law_script"] (am iX):=⟨rfl,rfl,rfl,by decide +kernel,rfl,by decide +kernel,by decide +kernel⟩
noncomputable def qX:MS:=(ak (ay 1 (av F_law_pen (af (ae 0) (af (eC (.int 0)) ai))))
 (ak (ay 2 (e2 aZ (eC (.int 1)) (av ax (aS 1 (af (eC (.int 12)) ai)))))
 (ak (ay 3 (av bg (aS 1 (af (eC (.int 24)) (af (ae 2) ai)))))
 (ak (ay 4 (av bg (af (av F_law_pen (af (ae 0) (af (eC (.int 1)) ai))) (af (eC (.int 24)) (af (e2 aZ (eC (.int 1)) (av ax (aS 1 (af (eC (.int 3)) ai)))) ai)))))
 (ak (sIf (cI (tV (e2 eqD (av ax (aS 1 (af (eC (.int 16)) ai))) (eC (.int 3)))) (hW (tV (av a5 (af (av F_law_pen (af (ae 0) (af (eC (.int 2)) ai))) ai))))) (aN (eC (.bool false))) be)
 (aN (dC (av aQ (af (ae 3) ai)) (dC (av aQ (af (ae 4) ai)) (av aQ (af (ae 3) ai))))))))))
noncomputable def nI:List D->Option (D × En):=fnF 4 [0] qX
def CL {k:Nat} (T:Bl mg)  (ic:Kn P w K mg base k "_law_pen" ["_law_script", "_law_k"] (spF K [0,0] 1 F_law_pen)) (gC:Kn P w K mg base k "_law_machine" ["_law_pen_here", "_law_most", "_law_signs"] (spF K [1,0,0] 0 bg)) (aE:Kn P w K mg base k "_law_take" ["_law_pen_here", "_law_many"] (spF K [1,0] 0 ax)) (fw:Kn P w K mg base k "_law_right" ["_law_machine_here"] (spF K [0] 3 aQ)) (iB:Kn P w K mg base k "_law_chain_right" ["_law_pen_here"] (spF K [1] 3 a5)) (F:Fun K "law" "law" iX f fd):FnOk P w K mg base CX0 (k+1) f fd ["_law_script"] (spF K [0] 3 nI):=by
 have nd:=sclaw.nd;refine F.okQ (N:=Cs) (b:=qX) (J:=⟨[],[0,0,0,0,0],3,[]⟩) (ds0:=[0,0,0,0,0]) sclaw rfl rfl rfl rfl fun cdv A outer s H E hr=>?_;exact (ag (aK 1 [0,1,0,0,0] nd (fnn ic hr (aa (fv 0 rfl rfl) (aa (fs0 ah) ac rfl) rfl) rfl rfl) rfl rfl rfl) (ag (aK 2 [0,1,0,0,0] nd (fs0 (ao bh ah (fns aE hr (fsl 1 (aa (fs0 ah) ac rfl) rfl) rfl rfl))) rfl rfl rfl) (ag (aK 3 [0,1,0,0,0] nd (fns gC hr (fsl 1 (aa (fs0 ah) (aa (fv 2 rfl rfl) ac rfl) rfl) rfl) rfl rfl) rfl rfl rfl) (ag (aK 4 [0,1,0,0,0] nd (fnn gC hr (aa (fnn ic hr (aa (fv 0 rfl rfl) (aa (fs0 ah) ac rfl) rfl) rfl rfl) (aa (fs0 ah) (aa (fs0 (ao bh ah (fns aE hr (fsl 1 (aa (fs0 ah) ac rfl) rfl) rfl rfl))) ac rfl) rfl) rfl) rfl rfl) rfl rfl rfl) (ag (aX (ds2:=[0,1,0,0,0]) (qpt (gb (fte rfl hr.units (fns aE hr (fsl 1 (aa (fs0 ah) ac rfl) rfl) rfl rfl) ah) (eX (gS (dq (fnn iB hr (aa (fnn ic hr (aa (fv 0 rfl rfl) (aa (fs0 ah) ac rfl) rfl) rfl rfl) ac rfl) rfl rfl) (fun _=>rfl)))))) (frt bZ rfl) aP) (frt (eI (fnn fw hr (aa (fv 3 rfl rfl) ac rfl) rfl rfl) (eI (fnn fw hr (aa (fv 4 rfl rfl) ac rfl) rfl rfl) (eF (fnn fw hr (aa (fv 3 rfl rfl) ac rfl) rfl rfl)))) rfl))))))
end
end W12
set_option maxHeartbeats 1000000
namespace W12
open PySem L2
def my {s u:MS} {K:Fl->Prop} {b:Bool} {en:En} (h1:kIf s u K (true,en)) (h2:kIf s u K (false,en)):kIf s u K (b,en):=by
 cases b
 ·exact h2
 ·exact h1
def iO (a b:Int):D:=.list [.int a,.int b]
def IsPen (t:D):Prop:=∃ a b,t=iO a b
def bi {p:D} {m:Int} (hp:IsPen p) (h3:0 < m) (h4:m < 1073741824) {Q:D × En->Prop} (h:∀ r p',0<=r->r < m->IsPen p'->Q (.int r,[some p',none])):W (ax [p,.int m]) Q:=by
 obtain ⟨a,b,rfl⟩:=hp;have m0:∀ z:Int,0<=z % m:=fun z=>za8 _ (by omega);have m1:∀ z:Int,z % m < m:=fun z=>za9 _ h3;by_cases ha:0 < a
 ·simp only [ws,ax,b6,iO,ha,h3,h4];exact ⟨⟨h3,h4⟩,h _ _ (m0 _) (m1 _) ⟨_,_,rfl⟩⟩
 ·simp only [ws,ax,b6,iO,ha,h3,h4];refine ⟨.inr (by decide),by decide,by decide,.inl ?_,⟨by decide,by decide⟩,by decide,⟨by decide,by decide⟩,h _ _ (m0 _) (m1 _) ⟨_,_,rfl⟩⟩;constructor <;> omega
def kG {ns:List Int} {k:Int} (h0:0<=k) (hl:ns.length<=63) {Q:D × En->Prop} (h:∀ p,IsPen p->Q (p,[none,none])):W (F_law_pen [.list (ns.map .int),.int k]) Q:=by
 simp only [ws,F_law_pen,bu];refine ⟨.inl (by decide),?_⟩;have pw:fA 10 18:=by unfold fA; decide
 by_cases hn:(0:Int) < ns.length
 ·obtain ⟨c,ec⟩:∃ c,atI (ns.map PyData.int) (k % (ns.length:Int))=some (.int c):=by
   have q1:0<=k % (ns.length:Int):=za8 _ (by omega);have q2:k % (ns.length:Int) < ns.length:=za9 _ (by omega);refine ⟨ns[(k % (ns.length:Int)).toNat]'(by omega),Dr q1 ?_⟩;rw [zao,zak (by omega)];rfl
  have cd:iZ k (ns.length:Int):=⟨hn,by omega⟩;simp only [ws,hn,ec];refine ⟨cd,.inl (by decide),pw,my ?_ ?_⟩ <;> simp only [ws] <;> exact ⟨by decide,.inr (by decide),.inl (by decide),by decide,h _ ⟨_,_,rfl⟩⟩
 ·simp only [ws,hn];refine ⟨pw,my ?_ ?_⟩ <;> simp only [ws] <;> exact ⟨by decide,.inr (by decide),.inl (by decide),by decide,h _ ⟨_,_,rfl⟩⟩
def lm:D->Bool
 | .bool _=>true
 | _=>false
def eW (n:Nat):D->Bool
 | .none=>true
 | .int z=>decide (0<=z) && decide (z<=(n:Int) - 1)
 | _=>false
def ir (m:Int) (n:Nat):D->Bool
 | .list ts=>decide ((ts.length:Int)=m) && ts.all (eW n)
 | _=>false
def A6 {n:Nat} {z:Int} (h0:0<=z) (h1:z < n):eW n (.int z)=true:=by
 simp only [eW,Bool.and_eq_true,decide_eq_true_eq];omega
def yq {p a b:D} {N:Nat} {z sh:Int} {G:List D} {st nu:Int} {ts:List D} {th:Option D} {Q:Fl->Prop} (hp:IsPen p) (hN:1<=N) (hN2:N<=24) (h0:0<=st) (h1:st < N) (hl:ts.length < 1000) (hs:0<=sh)
  (h:∀ p' v,IsPen p'->eW N v=true->Q (.nx [some p',some a,some b,some (.int N),some (.int z),some (.int sh),some (.list G),some (.int st),some (.list (ts++[v])),some (.int nu),some v,none,none])) :
  W (cN [some p,some a,some b,some (.int N),some (.int z),some (.int sh),some (.list G),some (.int st),some (.list ts),some (.int nu),th,none,none]) Q:=by
 simp only [ws,cN];refine bi hp (by omega) (by omega) fun r p1 r0 r1 hp1=>?_;have fin:∀ r:Int,0<=r->r < N->W ((ak (sIf (tV (e2 ltI (av ax (aS 0 (af (eC (.int 12)) ai))) (ae 4))) (ay 10 (eC .none)) be)
 (dz (dB 8 (ae 10)))) [some p1,some a,some b,some (.int N),some (.int z),some (.int sh),some (.list G),some (.int st),some (.list ts),some (.int nu),some (.int r),none,none]) Q:=fun r r0 r1=>by
  simp only [ws];refine bi hp1 (by decide) (by decide) fun x p2 x0 x1 hp2=>?_;have hz:=szl hl;by_cases hx:x < z
  ·simp only [ws,hx,hz];exact h p2 _ hp2 rfl
  ·simp only [ws,hx,hz];exact h p2 _ hp2 (A6 r0 r1)
 have hm:(0:Int) < (N:Int):=by omega
 by_cases c1:sh=1
 ·subst c1;by_cases c2:nu=0
  ·subst c2;simp only [ws,Int.reduceEq,hm] at fin ⊢;exact fin _ (za8 _ (by omega)) (za9 _ hm)
  ·simp only [ws,Int.reduceEq,c2] at fin ⊢;exact fin _ r0 r1
 ·by_cases c3:sh=2
  ·subst c3;simp only [ws,Int.reduceEq] at fin ⊢;refine ⟨by decide,fin _ ?_ ?_⟩ <;> split <;> omega
  ·simp only [ws,c1,c3] at fin ⊢;exact fin _ r0 r1
def pM {us:List D} {k:Nat} {t:D} (h:k < us.length):cE us (k:Int) t=some (us.set k t):=by
 unfold cE ixN;rw [if_pos (by omega),if_pos (by omega)];rfl
structure Mc (S:Nat) (es gs:List D):Prop where
 s1:1<=S
 s2:S<=12
 ne:1<=es.length
 le:es.length<=24
 gl:gs.length=es.length
 eb:∀ u∈es,lm u=true
 gr:∀ u∈gs,ir S es.length u=true
def Cz {p a:D} {N S:Nat} {z sh:Int} {G:List D} {st:Int} {x y w:Option D} {Q:Fl->Prop} (hp:IsPen p) (hN:1<=N) (hN2:N<=24) (h0:0<=st) (h1:st < N) (hl:G.length < 1000) (hs:0<=sh) (hS:S<=12)
  (h:∀ p' v x y w,IsPen p'->ir S N v=true->Q (.nx [some p',some a,some (.int S),some (.int N),some (.int z),some (.int sh),some (.list (G++[v])),some (.int st),x,y,w,none,none])) :
  W (cM [some p,some a,some (.int S),some (.int N),some (.int z),some (.int sh),some (.list G),some (.int st),x,y,w,none,none]) Q:=by
 simp only [ws,cM,zaJ];refine ⟨by omega,dR (fun i en=>∃ ts p y w,en=[some p,some a,some (.int S),some (.int N),some (.int z),some (.int sh),some (.list G),some (.int st),some (.list ts),y,w,none,none]/\ts.length=i/\ts.all (eW N)=true/\IsPen p) ⟨[],p,y,w,rfl,rfl,rfl,hp⟩ ?_ ?_⟩
 ·rintro i t en ht ⟨ts,p,y,w,rfl,h2,h3,hp⟩;obtain ⟨hi,rfl⟩:=fF ht;simp only [ws];refine yq hp hN hN2 h0 h1 (by omega) hs fun p' v hp' hv=>?_;simp only [ws];refine ⟨ts++[v],p',_,_,rfl,by rw [zae,h2]; rfl,?_,hp'⟩;rw [List.all_append,h3];simp [hv]
 ·rintro en ⟨ts,p,y,w,rfl,h2,h3,hp⟩;rw [cT] at h2;have hz:=szl hl;simp only [ws,hz];refine h p _ _ _ _ hp ?_;simp only [ir,h2,h3,decide_true,Bool.and_self]
def wx {p:D} {M S:Nat} (hp:IsPen p) (hM:1<=M) (hM2:M<=24) (hS:1<=S) (hS2:S<=12) :
  W (bg [p,.int M,.int S]) (fun r=>∃ es gs p',r=(.tuple [.list es,.list gs],[some p',none,none])/\Mc S es gs/\IsPen p'):=by
 simp only [ws,bg,dL];refine bi hp (by omega) (by omega) fun r p1 r0 r1 hp1=>?_;obtain ⟨N,hN⟩:∃ N:Nat,(1+r)=(N:Int):=⟨(1+r).toNat,by omega⟩;simp only [ws,hN];refine bi hp1 (by decide) (by decide) fun q p2 q0 q1 hp2=>?_;obtain ⟨z,hz⟩:∃ z:Int,atI [PyData.int 0,PyData.int 1,PyData.int 5,PyData.int 9] q=some (.int z):=by
  obtain ⟨k,rfl⟩:=zaK q0;rw [aL]
  match k,q1 with
  | 0,_=>exact ⟨_,rfl⟩
  | 1,_=>exact ⟨_,rfl⟩
  | 2,_=>exact ⟨_,rfl⟩
  | 3,_=>exact ⟨_,rfl⟩
  | k+4,h=>exact absurd h (by omega)
 simp only [ws,hz];refine bi hp2 (by decide) (by decide) fun sh p3 s0 s1 hp3=>?_;simp only [ws,zaJ];refine ⟨by omega,dR (fun i en=>∃ G p st x y w,en=[some p,some (.int M),some (.int S),some (.int N),some (.int z),some (.int sh),some (.list G),st,x,y,w,none,none]/\G.length=i/\(∀ u∈G,ir S N u=true)/\IsPen p) ⟨[],p3,_,_,_,_,rfl,rfl,fun _ h=>(by cases h),hp3⟩ ?_ ?_⟩
 ·rintro i t en ht ⟨G,p,st,x,y,w,rfl,h2,h3,hp⟩;obtain ⟨hi,rfl⟩:=fF ht;simp only [ws];refine Cz hp (by omega) (by omega) (by omega) (by omega) (by omega) s0 hS2 fun p' v x y w hp' hv=>?_;simp only [ws];refine ⟨G++[v],p',_,_,_,_,rfl,by rw [zae,h2]; rfl,fun u hu=>?_,hp'⟩;rcases zax.mp hu with hu | hu
  ·exact h3 u hu
  ·rw [zaG.mp hu]; exact hv
 ·rintro en ⟨G,p,st,x,y,w,rfl,h2,h3,hp⟩;rw [cT] at h2;simp only [ws];refine bi hp (by decide) (by decide) fun wy p4 w0 w1 hp4=>?_;simp only [ws,zaJ];refine ⟨by omega,qR (fun i us en=>∃ o p,en=[o,some p,some (.int wy)]/\us.length=i/\(∀ u∈us,lm u=true)/\IsPen p) (by rw [cT]; exact sz (by omega)) ⟨none,p4,rfl,rfl,fun _ h=>(by cases h),hp4⟩ ?_ ?_⟩
  ·rintro i t us en ht hu ⟨o,p,rfl,h4,h5,hp⟩;have step:∀ (b:Bool) (p':D),IsPen p'->∃ o p,[some t,some p',some (PyData.int wy)]=[o,some p,some (.int wy)]/\(us++[PyData.bool b]).length=i+1/\(∀ u∈us++[PyData.bool b],lm u=true)/\IsPen p:=fun b p' hp'=>by
    refine ⟨_,_,rfl,by rw [zae,h4]; rfl,fun u hu=>?_,hp'⟩;rcases zax.mp hu with hu | hu
    ·exact h5 u hu
    ·rw [zaG.mp hu]; rfl
   simp only [ws,e7];by_cases c1:wy=1
   ·simp only [ws,c1] at step ⊢;exact step _ _ hp
   ·by_cases c2:2 < wy
    ·simp only [ws,c1,c2];refine bi hp (by omega) (by omega) fun v p' v0 v1 hp'=>?_;simp only [ws];exact step _ _ hp'
    ·simp only [ws,c1,c2];exact step _ _ hp
  ·rintro us en _ ⟨o,p,rfl,h4,h5,hp⟩;rw [cT] at h4;have mc:∀ es:List D,es.length=N->(∀ u∈es,lm u=true)->Mc S es G:=fun es e1 e2=>⟨hS,hS2,by omega,by omega,by omega,e2,by rw [e1]; exact h3⟩;by_cases c1:wy=2
   ·simp only [ws,c1];refine bi hp (by omega) (by omega) fun v p' v0 v1 hp'=>?_;obtain ⟨k,rfl⟩:=zaK v0;simp only [ws];rw [pM (by omega)];simp only [ws];refine ⟨_,_,_,rfl,mc _ (by rw [zaT]; exact h4) (fun u hu=>?_),hp'⟩;rcases List.mem_or_eq_of_mem_set hu with hu | rfl
    ·exact h5 u hu
    ·rfl
   ·simp only [ws,c1];exact ⟨_,_,_,rfl,mc us h4 h5,hp⟩
def szB {n:Nat} (h:n<=100000):n<=sizeLine:=zau h (by decide)
def iJ {n:Nat} (h:n < 100000):n < sizeLine:=zag h (by decide)
def kv (k:Nat):D × D:=(.int (k:Int),.bool true)
def a8 (S:List Nat):D:=.dict (S.map kv)
def iD (k:Nat):D:=.int (k:Int)
def nD (l:List Nat):D:=.list (l.map iD)
def CP (a b:Nat):kEq (kv a).1 (iD b)=decide (a=b):=by
 show ((a:Int) == (b:Int))=_;rw [Bool.eq_iff_iff,beq_iff_eq,decide_eq_true_iff];omega
def mH (S:List Nat) (k:Nat):((S.map kv).find? fun q=>kEq q.1 (iD k)).isSome=decide (k∈S):=by
 induction S with
 | nil=>rfl
 | cons a S ih =>
  rw [zar,List.find?_cons,CP];by_cases h:a=k
  ·subst h; simp
  ·simp only [h,decide_false];rw [ih];simp [Ne.symm h]
def n9 (S:List Nat):noT (S.map kv)=true:=by
 cases S <;> rfl
def gO (S:List Nat) (k:Nat):fL (.int (k:Int)) (a8 S)=some (.bool (!decide (k∈S))):=by
 show (if noT (S.map kv)=true then some (PyData.bool (!(bF (S.map kv) (iD k)).isSome)) else none)=_;rw [if_pos (n9 S)];unfold bF;rw [Option.isSome_map,mH]
def Cm (S:List Nat) (k:Nat):((S.map kv).any fun q=>kEq q.1 (iD k))=decide (k∈S):=by
 rw [<- mH]
 induction S with
 | nil=>rfl
 | cons a S ih =>
  rw [zar,List.any_cons,List.find?_cons,ih];cases kEq (kv a).1 (iD k) <;> simp
def jD {S:List Nat} {k:Nat} (h:k ∉ S):fh (S.map kv) (iD k) (.bool true)=(S++[k]).map kv:=by
 unfold fh;rw [if_neg (by rw [Cm]; simpa using h),zaC];rfl
def CD {S:List Nat} {k:Nat} (h:k ∉ S) (hl:S.length < 2000) {x0 x1 x3 x4:Option D} :
  bY 2 (ae 5) (eC (.bool true)) [x0,x1,some (a8 S),x3,x4,some (.int (k:Int))]=some (.nx [x0,x1,some (a8 (S++[k])),x3,x4,some (.int (k:Int))]):=by
 show (if (S.map kv).length < sizeLine then some (Fl.nx [x0,x1,some (.dict (fh (S.map kv) (iD k) (.bool true))),x3,x4,some (iD k)]) else none)=_;rw [if_pos (by rw [zad]; exact iJ (by omega)),jD h];rfl
def og {l:List Nat} (hn:l.Nodup) (hl:l.length<=1000):W (dZ [nD l]) (fun r=>r=(a8 l,[none])):=by
 simp only [dZ,jY,ws,nD];refine W.of (show kE _=some (.dict [],_) from rfl) ?_;simp only [ws];refine dR (fun i en=>∃ o,en=[some (.list (l.map iD)),some (a8 (l.take i)),o]) ⟨none,rfl⟩ ?_ ?_
 ·rintro i t en ht ⟨o,rfl⟩;rw [zao] at ht;obtain ⟨k,hk,rfl⟩:=zab.mp ht;obtain ⟨hi,e⟩:=zah.mp hk;have et:l.take (i+1)=l.take i++[k]:=by rw [List.take_succ,hk]; rfl
  have hk':k ∉ l.take i:=fun z=>by
   rw [<- List.take_append_drop (i+1) l,et] at hn
   have:=(zbb.mp hn).1;exact (zbb.mp this).2.2 k z k zaq rfl
  simp only [ws,kq];refine W.of (show bY 1 (ae 2) (eC (.bool true)) [some (.list (l.map iD)),some (a8 (l.take i)),some (iD k)]=some (.nx [some (.list (l.map iD)),some (a8 (l.take (i+1))),some (iD k)]) from ?_) ?_
  ·show (if ((l.take i).map kv).length < sizeLine then some (Fl.nx [some (.list (l.map iD)),some (.dict (fh ((l.take i).map kv) (iD k) (.bool true))),some (iD k)]) else none)=_;rw [if_pos (by rw [zad,List.length_take]; exact iJ (by omega)),jD hk',et];rfl
  ·simp only [ws];exact ⟨_,rfl⟩
 ·rintro en ⟨o,rfl⟩;rw [zad,zaO];simp only [ws]
def oD:Option Nat->D
 | none=>.none
 | some k=>iD k
def bf (r:List (Option Nat)):D:=.list (r.map oD)
abbrev Gr:=List (List (Option Nat))
def gD (G:Gr):D:=.list (G.map bf)
def aO (G:Gr) (s t:Nat):Prop:=∃ r,G[s]?=some r/\some t∈r
def srt (S:List Nat):D:=.list ((bL (S.map fun k:Nat=>(k:Int))).map .int)
def me:∀ {cs A:List Nat},cs.Nodup->(∀ c∈cs,c∈A)->cs.length<=A.length
 | [],_,_,_=>Nat.zero_le _
 | c :: cs,A,nd,h=>by
  have hc:=h c zaq;obtain ⟨n1,n2⟩:=zba.mp nd;have ih:=me (A:=A.erase c) n2 fun x hx=>(List.mem_erase_of_ne (fun z:x=c=>n1 (by rw [<- z]; exact hx))).mpr (h x (zaj _ hx));rw [List.length_erase_of_mem hc] at ih
  have:=List.length_pos_of_mem hc;rw [zac];omega
def ca {S:List Nat} {N:Nat} (h:S.Nodup) (hl:∀ s∈S,s < N):S.length<=N:=by
 have:=me (A:=List.range N) h fun c hc=>List.mem_range.mpr (hl c hc)
 rwa [List.length_range] at this
def ip {S:List Nat} {k:Nat} (h:S.Nodup) (hk:k ∉ S):(S++[k]).Nodup:=by
 rw [zbb];exact ⟨h,by simp,fun a ha b hb e=>hk (by rw [<- zaG.mp hb,<- e]; exact ha)⟩
def mB:∀ S:List Nat,dk ((S.map kv).map fun q=>q.1)=some (S.map fun k:Nat=>(k:Int))
 | []=>rfl
 | k :: S=>by
  show (dk ((S.map kv).map fun q=>q.1)).map ((k:Int) :: ·)=_;rw [mB S];rfl
def mi {S:List Nat} (h:cO (S.map fun k:Nat=>(k:Int))):i5 [a8 S]=some (srt S):=by
 show (if noT (S.map kv)=true then (dk ((S.map kv).map fun q=>q.1)).bind fun ns=>grd (cO ns) (PyData.list ((bL ns).map .int)) else none)=_;rw [if_pos (n9 S),mB];show grd _ _=_;exact if_pos h
structure Keeps (G:Gr) (Q:List Nat->Prop):Prop where
 lt:∀ s t,aO G s t->t < G.length
 step:∀ S s t,Q S->s∈S->aO G s t->t ∉ S->Q (S++[t])
 cs:∀ S,Q S->S.Nodup->(∀ s∈S,s < G.length)->cO (S.map fun k:Nat=>(k:Int))
def qk {G:Gr} {Q:List Nat->Prop} (kp:Keeps G Q) (hN:G.length<=1000) {x0 x1 x5:Option D} {S A:List Nat} {h:Nat} {r:List (Option Nat)} {P:Fl->Prop} (hr:G[h]?=some r) (hh:h∈S) (nd:S.Nodup) (lt:∀ s∈S,s < G.length) (q:Q S) (hA:A.length<=S.length)
  (hP:∀ new o,(S++new).Nodup->(∀ s∈S++new,s < G.length)->Q (S++new)->(∀ t,some t∈r->t∈S++new)->P (.nx [x0,x1,some (a8 (S++new)),some (nD (A++new)),some (iD h),o])) :
  W (bS (gN 5) cL (r.map oD) [x0,x1,some (a8 S),some (nD A),some (iD h),x5]) P:=by
 refine dR (fun i en=>∃ new o,en=[x0,x1,some (a8 (S++new)),some (nD (A++new)),some (iD h),o]/\(S++new).Nodup/\(∀ s∈S++new,s < G.length)/\Q (S++new)/\∀ t,some t∈r.take i->t∈S++new) ⟨[],x5,by rw [List.append_nil,List.append_nil],by rw [List.append_nil]; exact nd,by rw [List.append_nil]; exact lt,by rw [List.append_nil]; exact q,fun t z=>by simp at z⟩ ?_ ?_
 ·rintro i t en ht ⟨new,o,rfl,g1,g2,g3,g4⟩;rw [zao] at ht;obtain ⟨w,hw,rfl⟩:=zab.mp ht;have et:r.take (i+1)=r.take i++[w]:=by rw [List.take_succ,hw]; rfl
  cases w with
  | none =>
   simp only [ws,cL,oD];exact ⟨new,_,rfl,g1,g2,g3,fun t z=>by
    rw [et] at z;rcases zax.mp z with z | z
    ·exact g4 t z
    ·simp at z⟩
  | some k =>
   have ed:aO G h k:=⟨r,hr,zaV hw⟩;by_cases hk:k∈S++new
   ·simp only [ws,cL,oD,iD,gO,hk];exact ⟨new,_,rfl,g1,g2,g3,fun t z=>by
     rw [et] at z;rcases zax.mp z with z | z
     ·exact g4 t z
     ·rw [zat (zaG.mp z)]; exact hk⟩
   ·simp only [ws,cL,oD,iD,gO,hk];have lN:=ca g1 g2;have lc:(S++new).length=S.length+new.length:=zae;refine W.of (CD hk (by omega)) ?_;simp only [ws,nD];have en':S++new++[k]=S++(new++[k]):=zaD ..;have e2:List.map iD (A++new)++[PyData.int (k:Int)]=List.map iD (A++(new++[k])):=by rw [<- zaD,zaC (l₁:=A++new)]; rfl
    refine ⟨iJ (by rw [zae]; omega),new++[k],_,by rw [en',e2],by rw [<- en']; exact ip g1 hk,fun s z=>?_,by rw [<- en']; exact kp.step _ h k g3 (List.mem_append_left _ hh) ed hk,fun t z=>?_⟩
    ·rw [<- en'] at z;rcases zax.mp z with z | z
     ·exact g2 s z
     ·rw [zaG.mp z]; exact kp.lt h k ed
    ·rw [<- en'];rw [et] at z;rcases zax.mp z with z | z
     ·exact List.mem_append_left _ (g4 t z)
     ·rw [zat (zaG.mp z)]; exact List.mem_append_right _ zaq
 ·rintro en ⟨new,o,rfl,g1,g2,g3,g4⟩;rw [zad,zaO] at g4;exact hP new o g1 g2 g3 g4
def CG {x0 x1 x2 x4 x5:Option D} (ts:List D) (t:D):gZ 3 [x0,x1,x2,some (.list (ts++[t])),x4,x5]=some (t,[x0,x1,x2,some (.list ts),x4,x5]):=by
 unfold gZ;simp
def i7 {G:Gr} {Q:List Nat->Prop} (kp:Keeps G Q) (hN:G.length<=1000) {l:List Nat} (nd:l.Nodup) (lt:∀ s∈l,s < G.length) (q:Q l) :
  W (bV [nD l,gD G]) (fun r=>∃ S,r=(srt S,[none,none])/\S.Nodup/\Q S/\(∀ s∈l,s∈S)/\(∀ s∈S,s < G.length)/\∀ s∈S,∀ t,aO G s t->t∈S):=by
 have ll:=ca nd lt;simp only [bV,i3,ws];refine W.use (og nd (by omega)) ?_;rintro _ rfl;have e1:fX [nD l]=some (nD l):=rfl;simp only [ws,e1];refine mO (fun n en=>∃ S A o4 o5,en=[some (nD l),some (gD G),some (a8 S),some (nD A),o4,o5]/\S.Nodup/\Q S/\(∀ s∈l,s∈S)/\(∀ s∈S,s < G.length)/\(∀ s∈A,s∈S)/\A.length<=S.length/\(∀ s∈S,s ∉ A->∀ t,aO G s t->t∈S)/\n=2 * (G.length - S.length)+A.length) ?_ ⟨l,l,none,none,rfl,nd,q,fun _ z=>z,lt,fun _ z=>z,zav _,fun s z1 z2=>absurd z1 z2,rfl⟩;rintro n en ⟨S,A,o4,o5,rfl,g1,g2,g3,g4,g5,g6,g7,rfl⟩;have lS:=ca g1 g4;rcases List.eq_nil_or_concat A with rfl | ⟨A0,h,e⟩
 ·have z0:decide ((0:Int) < (([]:List Nat).length:Nat))=false:=rfl;simp only [ws,gq,nD,z0,mi (kp.cs S g2 g1 g4)];exact ⟨S,rfl,g1,g2,g3,g4,fun s hs t=>g7 s hs (fun z=>by cases z) t⟩
 ·rw [List.concat_eq_append] at e;subst e;have hh:h∈S:=g5 h (by simp);have hG:=g4 h hh;obtain ⟨r,hr⟩:∃ r,G[h]?=some r:=⟨_,zak hG⟩;have z1:decide ((0:Int) < ((List.map iD A0++[PyData.int (h:Int)]).length:Nat))=true:=by
   rw [decide_eq_true_iff,zae];show (0:Int) < (((List.map iD A0).length+1:Nat):Int);omega
  have e3:List.map iD (A0++[h])=List.map iD A0++[.int (h:Int)]:=by rw [zaC]; rfl
  have e4:atI (G.map bf) (h:Int)=some (.list (r.map oD)):=by rw [aL,zao,hr]; rfl
  simp only [ws,gq,jA,nD,gD,z1,e3];refine W.of (show gZ 3 [some (.list (l.map iD)),some (.list (G.map bf)),some (a8 S),some (.list (A0.map iD++[.int (h:Int)])),o4,o5]=some (.int (h:Int),[some (.list (l.map iD)),some (.list (G.map bf)),some (a8 S),some (.list (A0.map iD)),o4,o5]) from CG _ _) ?_;simp only [ws,e4];have la:(A0++[h]).length=A0.length+1:=zae;refine qk (A:=A0) kp hN hr hh g1 g4 g2 (by omega) fun new o n1 n2 n3 n4=>?_;have lS':=ca n1 n2;have l1:(S++new).length=S.length+new.length:=zae;have l2:(A0++new).length=A0.length+new.length:=zae;simp only [ws];refine ⟨2 * (G.length - (S++new).length)+(A0++new).length,by omega,S++new,A0++new,_,_,rfl,n1,n3,fun s z=>List.mem_append_left _ (g3 s z),n2,fun s z=>?_,by omega,fun s z1 z2 t et=>?_,rfl⟩
  ·rcases zax.mp z with z | z
   ·exact List.mem_append_left _ (g5 s (List.mem_append_left _ z))
   ·exact List.mem_append_right _ z
  ·rcases zax.mp z1 with z1 | z1
   ·by_cases e:s=h
    ·subst e;obtain ⟨r',hr',m⟩:=et;rw [hr] at hr';cases hr';exact n4 t m
    ·exact List.mem_append_left _ (g7 s z1 (fun z=>(zax.mp z).elim (fun z=>z2 (List.mem_append_left _ z)) fun z=>e (zaG.mp z)) t et)
   ·exact absurd (List.mem_append_right _ z1) z2
def pD (q:Nat × Nat):D:=.tuple [iD q.1,iD q.2]
def j5:∀ (l S:List Nat),(S++l).Nodup->io (l.map fun k:Nat=>((k:Int),true)) (S.map fun k:Nat=>((k:Int),true))=(S++l).map fun k:Nat=>((k:Int),true)
 | [],S,_=>by rw [List.append_nil]; rfl
 | k :: l,S,h=>by
  have hk:k ∉ S:=fun z=>(zbb.mp h).2.2 k z k zaq rfl;have e:iL (S.map fun k:Nat=>((k:Int),true)) (k:Int) true=(S++[k]).map fun k:Nat=>((k:Int),true):=by
   unfold iL;rw [if_neg,zaC]
   ·rfl
   ·rw [List.any_map,List.any_eq_true];rintro ⟨x,hx,e⟩;have e':=of_decide_eq_true e;exact hk (by rw [<- Int.ofNat.inj e']; exact hx)
  show io (l.map _) (iL _ (k:Int) true)=_;rw [e,j5 l (S++[k]) (by rw [zaD]; exact h),zaD];rfl
def kT:∀ l:List Nat,fG (l.map fun k:Nat=>.tuple [.int (k:Int),.bool true])=some (l.map fun k:Nat=>((k:Int),true))
 | []=>rfl
 | k :: l=>by
  show (fG (l.map _)).map (((k:Int),true) :: ·)=_;rw [kT l];rfl
def Cl {l:List Nat} (h:l.Nodup):lz [.list (l.map fun k:Nat=>.tuple [.int (k:Int),.bool true])]=some (a8 l):=by
 show (fG _).map _=_;rw [kT];show some (PyData.dict _)=_
 have:=j5 l [] (by rw [List.nil_append]; exact h);rw [List.map_nil,List.nil_append] at this;rw [this,zaP];rfl
def fK:∀ M:List Nat,au (M.map iD)=true/\aU (M.map iD)=0
 | []=>⟨rfl,rfl⟩
 | k :: M=>by
  obtain ⟨h1,h2⟩:=fK M;rw [zar];exact ⟨by simp [au,aj,iD,h1],by simp [aU,a7,iD,h2]⟩
def wM (s:Nat):∀ M:List Nat,((M.map iD).any fun t=>peq t (.int (s:Int)))=decide (s∈M)
 | []=>by simp
 | k :: M=>by
  rw [zar,List.any_cons,wM s M];have e:peq (iD k) (.int (s:Int))=decide (k=s):=by
   simp only [iD,peq];rw [Bool.eq_iff_iff,beq_iff_eq,decide_eq_true_iff];omega
  rw [e];by_cases h:k=s
  ·simp [h]
  ·simp [h,Ne.symm h]
def ql (s:Nat) (M:List Nat):inL (.int (s:Int)) (.list (M.map iD))=some (.bool (decide (s∈M))):=by
 show grd _ _=_;unfold grd;rw [if_pos ⟨rfl,(fK M).1,by rw [(fK M).2]; decide⟩,wM]
def Ba (M:List Nat):neD (.list (M.map iD)) (.list [])=some (.bool (!decide (M=[]))):=by
 show grd _ _=_;unfold grd;rw [if_pos ⟨by simp only [aj]; exact (fK M).1,rfl,by simp only [a7,(fK M).2]; decide⟩];cases M with
 | nil=>rfl
 | cons u l=>rfl
def AM {S:List Nat} {k:Nat} (h:k ∉ S) (hl:S.length < 2000) {x0 x1 x3 x4 x5:Option D} :
  bY 2 (ae 6) (eC (.bool true)) [x0,x1,some (a8 S),x3,x4,x5,some (.int (k:Int))]=some (.nx [x0,x1,some (a8 (S++[k])),x3,x4,x5,some (.int (k:Int))]):=by
 show (if (S.map kv).length < sizeLine then some (Fl.nx [x0,x1,some (.dict (fh (S.map kv) (iD k) (.bool true))),x3,x4,x5,some (iD k)]) else none)=_;rw [if_pos (by rw [zad]; exact iJ (by omega)),jD h];rfl
def ke {P:List (Nat × Nat)} {N:Nat} (hN:N<=63) {Q:List Nat->Prop} (step:∀ S s t,Q S->s∈S->(s,t)∈P->t ∉ S->Q (S++[t])) (hlt:∀ q∈P,q.2 < N) {l:List Nat} (nd:l.Nodup) (lt:∀ s∈l,s < N) (q:Q l) (hP:P.length<=10000) :
  W (aR [.list (P.map pD),nD l]) (fun r=>∃ S,r=(srt S,[none,none])/\S.Nodup/\Q S/\(∀ s∈l,s∈S)/\(∀ s∈S,s < N)/\∀ s∈S,∀ t,(s,t)∈P->t∈S):=by
 have ll:=ca nd lt;simp only [aR,eR,ws,nD];refine hZ (fun t=>.tuple [t,.bool true]) (szB (by rw [zad]; omega)) (fun t _=>by simp only [ws,fN]) fun o=>?_;have e1:(l.map iD).map (fun t=>PyData.tuple [t,.bool true])=l.map fun k:Nat=>.tuple [.int (k:Int),.bool true]:=by rw [zaP]; rfl
 simp only [ws,e1,Cl nd];refine W.of (show jP 2 [some (.list (P.map pD)),some (.list (l.map iD)),some (a8 l),none,none,none,none]=some (nD l,[some (.list (P.map pD)),some (.list (l.map iD)),some (a8 l),none,none,none,none]) from ?_) ?_
 ·show some (PyData.list ((l.map kv).map fun q=>q.1),_)=_;rw [zaP];rfl
 simp only [ws];refine mO (fun n en=>∃ S M o4 o5 o6,en=[some (.list (P.map pD)),some (.list (l.map iD)),some (a8 S),some (nD M),o4,o5,o6]/\S.Nodup/\Q S/\(∀ s∈l,s∈S)/\(∀ s∈S,s < N)/\(∀ s∈M,s∈S)/\(∀ s∈S,s ∉ M->∀ t,(s,t)∈P->t∈S)/\n=2 * (N - S.length)+M.length) ?_ ⟨l,l,none,none,none,rfl,nd,q,fun _ z=>z,lt,fun _ z=>z,fun s z1 z2=>absurd z1 z2,rfl⟩;rintro n en ⟨S,M,o4,o5,o6,rfl,g1,g2,g3,g4,g5,g7,rfl⟩;have lS:=ca g1 g4;have cs:cO (S.map fun k:Nat=>(k:Int)):=.inl (by rw [zad]; omega);by_cases hM:M=[]
 ·simp only [ws,de,nD,Ba,hM,mi cs];exact ⟨S,rfl,g1,g2,g3,g4,fun s hs t=>g7 s hs (fun z=>by rw [hM] at z; cases z) t⟩
 ·simp only [ws,de,fM,nD,Ba,hM];have lM:1<=M.length:=List.length_pos_iff.mpr hM;refine dR (fun i en=>∃ new o5 o6,en=[some (.list (P.map pD)),some (.list (l.map iD)),some (a8 (S++new)),some (.list (M.map iD)),some (.list (new.map iD)),o5,o6]/\(S++new).Nodup/\(∀ s∈S++new,s < N)/\Q (S++new)/\∀ s t,(s,t)∈P.take i->s∈M->t∈S++new) ⟨[],_,_,by rw [List.append_nil]; rfl,by rw [List.append_nil]; exact g1,by rw [List.append_nil]; exact g4,by rw [List.append_nil]; exact g2,fun s t z=>by simp at z⟩ ?_ ?_
  ·rintro i t en ht ⟨new,p5,p6,rfl,h1,h2,h3,h4⟩;rw [zao] at ht;obtain ⟨⟨s,t⟩,hw,rfl⟩:=zab.mp ht;have et:P.take (i+1)=P.take i++[(s,t)]:=by rw [List.take_succ,hw]; rfl
   have mP:(s,t)∈P:=zaV hw;by_cases hs:s∈M
   ·by_cases hk:t∈S++new
    ·simp only [ws,b4,pD,iD,ql,gO,hs,hk];exact ⟨new,_,_,rfl,h1,h2,h3,fun s' t' z m=>by
      rw [et] at z;rcases zax.mp z with z | z
      ·exact h4 s' t' z m
      ·cases zaG.mp z;exact hk⟩
    ·simp only [ws,b4,pD,iD,ql,gO,hs,hk];have lN:=ca h1 h2;have lc:(S++new).length=S.length+new.length:=zae;refine W.of (AM hk (by omega)) ?_;simp only [ws];have en':S++new++[t]=S++(new++[t]):=zaD ..;have e2:List.map iD new++[PyData.int (t:Int)]=List.map iD (new++[t]):=by rw [zaC]; rfl
     refine ⟨iJ (by omega),new++[t],_,_,by rw [en',e2],by rw [<- en']; exact ip h1 hk,fun s z=>?_,by rw [<- en']; exact step _ s t h3 (List.mem_append_left _ (g5 s hs)) mP hk,fun s' t' z m=>?_⟩
     ·rw [<- en'] at z;rcases zax.mp z with z | z
      ·exact h2 s z
      ·rw [zaG.mp z]; exact hlt _ mP
     ·rw [<- en'];rw [et] at z;rcases zax.mp z with z | z
      ·exact List.mem_append_left _ (h4 s' t' z m)
      ·cases zaG.mp z;exact List.mem_append_right _ zaq
   ·simp only [ws,b4,pD,iD,ql,gO,hs];exact ⟨new,_,_,rfl,h1,h2,h3,fun s' t' z m=>by
     rw [et] at z;rcases zax.mp z with z | z
     ·exact h4 s' t' z m
     ·cases zaG.mp z;exact absurd m hs⟩
  ·rintro en ⟨new,p5,p6,rfl,h1,h2,h3,h4⟩;rw [zad,zaO] at h4;have lN:=ca h1 h2;have lc:(S++new).length=S.length+new.length:=zae;simp only [ws];refine ⟨2 * (N - (S++new).length)+new.length,by omega,S++new,new,_,_,_,rfl,h1,h3,fun s z=>List.mem_append_left _ (g3 s z),h2,fun s z=>List.mem_append_right _ z,fun s z1 z2 t et=>?_,rfl⟩;rcases zax.mp z1 with z1 | z1
   ·by_cases e:s∈M
    ·exact h4 s t et e
    ·exact List.mem_append_left _ (g7 s z1 e t et)
   ·exact absurd z1 z2
def toG (B:List (List Nat)):Gr:=B.map fun l=>l.map some
def bD (B:List (List Nat)):gD (toG B)=.list (B.map nD):=by
 unfold gD toG;rw [zaP];congr 1;refine List.map_congr_left fun l _=>?_;show PyData.list _=PyData.list _;rw [zaP];rfl
def Cj {B:List (List Nat)} {s t:Nat}:aO (toG B) s t↔∃ l,B[s]?=some l/\t∈l:=by
 unfold aO toG;constructor
 ·rintro ⟨r,h1,h2⟩;rw [zao] at h1;obtain ⟨l,hl,rfl⟩:=zab.mp h1;obtain ⟨x,hx,e⟩:=zaz.mp h2;cases e;exact ⟨l,hl,hx⟩
 ·rintro ⟨l,hl,hx⟩;exact ⟨l.map some,by rw [zao,hl]; rfl,List.mem_map_of_mem hx⟩
structure GOk (G:Gr):Prop where
 n:G.length<=1000
 w:∀ r∈G,r.length<=12
 lt:∀ s t,aO G s t->t < G.length
def Ds {B:List (List Nat)} {b:List Nat} {s t:Nat} (hb:B[t]?=some b) (hl:b.length < 50000) {x0 x3:Option D} :
  gm 1 (pIx 1 (iP 1) (ae 4)) (ae 2) [x0,some (.list (B.map nD)),some (.int (s:Int)),x3,some (.int (t:Int))]=some (.none,[x0,some (.list ((B.set t (b++[s])).map nD)),some (.int (s:Int)),x3,some (.int (t:Int))]):=by
 have ht:t < B.length:=(zah.mp hb).1;have e1:ixN (B.map nD).length (t:Int)=some t:=by
  unfold ixN;rw [zad,if_pos (by omega)];simpa using ht
 have e2:(B.map nD)[t]?=some (.list (b.map iD)):=by rw [zao,hb]; rfl
 have e0:pIx 1 (iP 1) (ae 4) [x0,some (.list (B.map nD)),some (.int (s:Int)),x3,some (.int (t:Int))]=some ([t],[x0,some (.list (B.map nD)),some (.int (s:Int)),x3,some (.int (t:Int))]):=by
  show ((ixN (B.map nD).length (t:Int)).bind fun k=>if k < (B.map nD).length then some ([]++[k],_) else none)=_;rw [e1];show (if t < (B.map nD).length then _ else none)=_;rw [if_pos (by rw [zad]; exact ht)];rfl
 unfold gm;rw [e0];show ((((B.map nD)[t]?).bind fun u=>cU u []).bind fun u=>_)=_;rw [e2];show (if (b.map iD).length < sizeLine then some (PyData.none,[x0,some (PyData.list ((B.map nD).set t (((B.map nD)[t]?).elim .none fun c=>cx c [] (.list (b.map iD++[.int (s:Int)]))))),some (.int (s:Int)),x3,some (.int (t:Int))]) else none)=_;rw [if_pos (by rw [zad]; exact iJ (by omega)),e2];have e3:(B.set t (b++[s])).map nD=(B.map nD).set t (.list (b.map iD++[.int (s:Int)])):=by
  rw [List.map_set];congr 1;show PyData.list _=_;rw [zaC];rfl
 rw [e3];rfl
def wN {G:Gr} (g:GOk G):W (b5 [gD G]) (fun r=>∃ B:List (List Nat),r=(gD (toG B),[none])/\B.length=G.length/\∀ s t,aO (toG B) s t↔aO G t s):=by
 have n:=g.n;simp only [b5,gx,ws,gD];refine hZ (fun _=>.list []) (szB (by rw [zad]; omega)) (fun t _=>by simp only [ws,ig]) fun o=>?_;simp only [ws];have e0:List.map (fun x=>PyData.list []) (List.map bf G)=(List.replicate G.length ([]:List Nat)).map nD:=by
  rw [zaP,List.map_replicate];exact List.map_const' ..
 rw [e0];refine dR (fun i en=>∃ (B:List (List Nat)) (o2 o3 o4:Option D),en=[some (.list (G.map bf)),some (.list (B.map nD)),o2,o3,o4]/\B.length=G.length/\(∀ b∈B,b.length<=12 * i)/\∀ t b,B[t]?=some b->∀ s,s∈b↔s < i/\aO G s t) ⟨_,_,_,_,rfl,zaL,fun b z=>by rw [(List.mem_replicate.mp z).2]; exact Nat.zero_le _,fun t b hb s=>?_⟩ ?_ ?_
 ·have:b=[]:=(List.mem_replicate.mp (zaV hb)).2;subst this;simp
 ·rintro i t en ht ⟨B,o2,o3,o4,rfl,b1,b2,b3⟩;obtain ⟨u,hu,rfl⟩:=dw ht;rw [zao] at hu;obtain ⟨r,hr,rfl⟩:=zab.mp hu;have hi:i < G.length:=(zah.mp hr).1;have rl:=g.w r (zaV hr);simp only [ws,ib,bf];refine dR (fun j en=>∃ (B:List (List Nat)) (o4:Option D),en=[some (.list (G.map bf)),some (.list (B.map nD)),some (.int (i:Int)),some (.list (r.map oD)),o4]/\B.length=G.length/\(∀ b∈B,b.length<=12 * i+j)/\∀ t b,B[t]?=some b->∀ s,s∈b↔(s < i/\aO G s t)\/(s=i/\some t∈r.take j)) ⟨B,_,rfl,b1,fun b z=>by have:=b2 b z; omega,fun t b hb s=>by rw [b3 t b hb s]; simp⟩ ?_ ?_
  ·rintro j u en hu' ⟨B,o4,rfl,c1,c2,c3⟩;rw [zao] at hu';obtain ⟨w,hw,rfl⟩:=zab.mp hu';have hj:j < r.length:=(zah.mp hw).1;have et:r.take (j+1)=r.take j++[w]:=by rw [List.take_succ,hw]; rfl
   cases w with
   | none =>
    simp only [ws,eP,oD];exact ⟨B,_,rfl,c1,fun b z=>by have:=c2 b z; omega,fun t b hb s=>by rw [c3 t b hb s,et]; simp⟩
   | some k =>
    have hk:k < G.length:=g.lt i k ⟨r,hr,zaV hw⟩;obtain ⟨b,hb⟩:∃ b,B[k]?=some b:=⟨_,zak (by omega)⟩;have lb:=c2 b (zaV hb);simp only [ws,eP,oD,iD];refine W.of (Ds (s:=i) hb (by omega)) ?_;simp only [ws];refine ⟨_,_,rfl,by rw [zaT]; exact c1,fun b' z=>?_,fun t b' hb' s=>?_⟩
    ·rcases List.mem_or_eq_of_mem_set z with z | z
     ·have:=c2 b' z; omega
     ·rw [z,zae];show b.length+1<=_;omega
    ·by_cases e:t=k
     ·subst e;rw [zaN (by omega)] at hb';cases hb';rw [zax,c3 t b hb s,et];simp only [zaG,zax];constructor
      ·rintro ((h | h) | h)
       ·exact .inl h
       ·exact .inr ⟨h.1,.inl h.2⟩
       ·exact .inr ⟨h,.inr trivial⟩
      ·rintro (h | ⟨h,h2 | h2⟩)
       ·exact .inl (.inl h)
       ·exact .inl (.inr ⟨h,h2⟩)
       ·exact .inr h
     ·rw [zaM (Ne.symm e)] at hb';rw [c3 t b' hb' s,et];simp [e]
  ·rintro en ⟨B,o4,rfl,c1,c2,c3⟩;rw [zad,zaO] at c3;rw [zad] at c2;simp only [ws];refine ⟨B,_,_,_,rfl,c1,fun b z=>by have:=c2 b z; omega,fun t b hb s=>?_⟩;rw [c3 t b hb s];constructor
   ·rintro (h | ⟨rfl,h⟩)
    ·exact ⟨by omega,h.2⟩
    ·exact ⟨by omega,r,hr,h⟩
   ·rintro ⟨h1,h2⟩;by_cases e:s=i
    ·subst e;obtain ⟨r',hr',m⟩:=h2;rw [hr] at hr';cases hr';exact .inr ⟨rfl,m⟩
    ·exact .inl ⟨by omega,h2⟩
 ·rintro en ⟨B,o2,o3,o4,rfl,b1,b2,b3⟩;rw [cC,zad] at b3;simp only [ws];refine ⟨B,by rw [<- bD]; rfl,b1,fun s t=>?_⟩;rw [Cj];constructor
  ·rintro ⟨l,hl,m⟩;exact ((b3 s l hl t).mp m).2
  ·intro h;have hs:s < B.length:=by rw [b1]; exact g.lt t s h
   have ht:t < G.length:=by
    obtain ⟨r,hr,_⟩:=h;exact (zah.mp hr).1
   exact ⟨B[s],zak hs,(b3 s _ (zak hs) t).mpr ⟨ht,h⟩⟩
inductive Rc (E:Nat->Nat->Prop) (l:List Nat):Nat->Prop
 | first {s:Nat} (h:s∈l):Rc E l s
 | next {s t:Nat} (h:Rc E l s) (e:E s t):Rc E l t
def Rc.inn {E:Nat->Nat->Prop} {l S:List Nat} (h1:∀ s∈l,s∈S) (h2:∀ s∈S,∀ t,E s t->t∈S) {s:Nat} (h:Rc E l s):s∈S:=by
 induction h with
 | first h=>exact h1 _ h
 | next _ e ih=>exact h2 _ ih _ e
def kQ {S T:List Nat} (h1:S.Nodup) (h2:T.Nodup) (h:∀ s,s∈S↔s∈T):srt S=srt T:=by
 have p:S.Perm T:=(List.perm_ext_iff_of_nodup h1 h2).mpr h;unfold srt;rw [fS ((bE _).trans ((p.map fun k:Nat=>(k:Int)).trans (bE _).symm)) (bN _) (bN _)]
def bsD (es:List Bool):D:=.list (es.map .bool)
def mD (es:List Bool) (G:Gr):D:=.tuple [bsD es,gD G]
def aT (es:List Bool):List Nat:=(List.range es.length).filter fun k=>es.getD k false
def jM (es:List Bool):(aT es).Nodup:=(List.nodup_range).filter _
def jN {es:List Bool}:∀ s∈aT es,s < es.length:=fun s h=>List.mem_range.mp (List.mem_filter.mp h).1
def oe {es:List Bool} {G:Gr} {Q:List Nat->Prop} (kp:Keeps G Q) (g:GOk G) (h1:1<=G.length) (q:Q [0]):W (fy [mD es G]) (fun r=>∃ S,r=(srt S,[none])/\S.Nodup/\Q S/\0∈S/\(∀ s∈S,s < G.length)/\∀ s∈S,∀ t,aO G s t->t∈S):=by
 simp only [fy,qW,ws,mD];refine W.use (i7 (l:=[0]) kp g.n (by simp) (fun s h=>by rw [zaG.mp h]; omega) q) ?_;rintro _ ⟨S,rfl,g1,g2,g3,g4,g5⟩;simp only [ws];exact ⟨S,rfl,g1,g2,g3 0 (by simp),g4,g5⟩
def lG {es:List Bool} {G:Gr} {Q:List Nat->Prop} (g:GOk G) (he:es.length=G.length) (kp:∀ B:List (List Nat),B.length=G.length->(∀ s t,aO (toG B) s t↔aO G t s)->Keeps (toG B) Q) (q:Q (aT es)):W (ce [mD es G]) (fun r=>∃ S,r=(srt S,[none])/\S.Nodup/\Q S/\(∀ s∈aT es,s∈S)/\(∀ s∈S,s < G.length)/\∀ s∈S,∀ t,aO G t s->t∈S):=by
 have n:=g.n;simp only [ce,lT,ws,mD,bsD];refine ⟨⟨by omega,by omega⟩,?_⟩;have en:((es.length:Nat):Int).toNat=es.length:=zaJ _;rw [en];refine h8 (fun t=>match t with | .int z=>es.getD z.toNat false | _=>false) (fun t=>t) (by rw [cT]; exact szB (by omega)) (fun t ht=>?_) (fun t ht _=>by simp only [ws,lQ]) fun o=>?_
 ·obtain ⟨k,hk⟩:=List.getElem?_of_mem ht;obtain ⟨hk',rfl⟩:=fF hk;have ea:atI (es.map PyData.bool) (k:Int)=some (.bool (es.getD k false)):=by
   rw [aL,zao,zak hk',List.getD_eq_getElem?_getD,zak hk'];rfl
  simp only [ws,lJ,ea,Int.zero_add,zaJ]
 ·have el:List.map (fun t=>t) (List.filter (fun t=>match t with | PyData.int z=>es.getD z.toNat false | _=>false) (eh 0 es.length))=(aT es).map iD:=by
   rw [List.map_id'];unfold eh aT;rw [List.filter_map];have e1:(fun k:Nat=>PyData.int (0+(k:Int)))=iD:=by
    funext k
    rw [Int.zero_add];rfl
   rw [e1];rfl
  rw [el];simp only [ws];refine W.use (wN g) ?_;rintro _ ⟨B,rfl,b1,b2⟩;have tl:(toG B).length=G.length:=by unfold toG; rw [zad,b1]
  simp only [ws];refine W.use (i7 (l:=aT es) (kp B b1 b2) (by omega) (jM es) (fun s h=>by rw [tl,<- he]; exact jN s h) q) ?_;rintro _ ⟨S,rfl,g1,g2,g3,g4,g5⟩;simp only [ws];exact ⟨S,rfl,g1,g2,g3,fun s z=>by rw [<- tl]; exact g4 s z,fun s z t e=>g5 s z t ((b2 s t).mpr e)⟩
def mL {es:List Bool} {G:Gr} (g:GOk G):W (bo [mD es G]) (fun r=>r=(mD es G,[none])):=by
 have n:=g.n;simp only [bo,gy,ws,mD,bsD,gD];refine hZ (fun t=>t) (szB (by rw [zad]; omega)) (fun t ht=>?_) fun o=>?_
 ·obtain ⟨r,hr,rfl⟩:=zaz.mp ht;simp only [ws,ii,bf]
 ·simp only [ws,List.map_id']
structure MOk (es:List Bool) (G:Gr):Prop where
 g:GOk G
 l:es.length=G.length
 n1:1<=G.length
 n:G.length<=24
def j9 {G:Gr} (hn:G.length<=24) (lt:∀ s t,aO G s t->t < G.length) {E:Nat->Nat->Prop} (hE:∀ s t,aO G s t->E s t) (l:List Nat):Keeps G (fun S=>∀ s∈S,Rc E l s):=by
 refine ⟨lt,fun S s t q hs e _ u hu=>?_,fun S q nd hl=>.inl ?_⟩
 ·rcases zax.mp hu with hu | hu
  ·exact q u hu
  ·rw [zaG.mp hu];exact .next (q s hs) (hE s t e)
 ·rw [zad]
  have:=ca nd hl;omega
def xl {es:List Bool} {G:Gr} (M:MOk es G):W (fy [mD es G]) (fun r=>∃ S,r=(srt S,[none])/\S.Nodup/\(∀ s,s∈S↔Rc (aO G) [0] s)):=by
 refine W.use (oe (j9 M.n M.g.lt (fun _ _ e=>e) [0]) M.g M.n1 (fun s h=>.first h)) ?_;rintro _ ⟨S,rfl,g1,g2,g3,g4,g5⟩;exact ⟨S,rfl,g1,fun s=>⟨g2 s,fun h=>h.inn (fun x hx=>by rw [zaG.mp hx]; exact g3) g5⟩⟩
def pB {es:List Bool} {G:Gr} (M:MOk es G):W (ce [mD es G]) (fun r=>∃ S,r=(srt S,[none])/\S.Nodup/\(∀ s,s∈S↔Rc (fun s t=>aO G t s) (aT es) s)):=by
 have n:=M.n;refine W.use (lG (Q:=fun S=>∀ s∈S,Rc (fun s t=>aO G t s) (aT es) s) M.g M.l (fun B b1 b2=>?_) (fun s h=>.first h)) ?_
 ·have tl:(toG B).length=G.length:=by unfold toG; rw [zad,b1]
  refine j9 (by omega) (fun s t e=>?_) (fun s t e=>(b2 s t).mp e) _;obtain ⟨r,hr,_⟩:=(b2 s t).mp e;rw [tl];exact (zah.mp hr).1
 ·rintro _ ⟨S,rfl,g1,g2,g3,g4,g5⟩;exact ⟨S,rfl,g1,fun s=>⟨g2 s,fun h=>h.inn g3 g5⟩⟩
def Co {j:Nat} {b:MS} {ts:List D} {en:En} {Q:Fl->Prop} (I:Nat->En->Prop) (h0:I 0 en)
  (hs:∀ i t en,ts[i]?=some t->I i en->W (b (en.set j (some t))) (fun fl=>match fl with | .nx e=>I (i+1) (e.set j none) | .ct e=>I (i+1) (e.set j none) | .rt r e=>Q (.rt r e))) (hq:∀ en,I ts.length en->Q (.nx en)):W (gW j b ts en) Q:=by
 suffices ∀ (us:List D) (i:Nat) (en:En),ts.drop i=us->i<=ts.length->I i en->W (gW j b us en) Q from this ts 0 en rfl (Nat.zero_le _) h0
 intro us
 induction us with
 | nil =>
  intro i en hu hi h
  have:ts.length - i=0:=by rw [<- zaF,hu]; rfl
  exact W.of rfl (hq en (by rw [show ts.length=i by omega]; exact h))
 | cons t us ih =>
  intro i en hu hi h;have ht:ts[i]?=some t:=by
   have:(ts.drop i)[0]?=some t:=by rw [hu]; rfl
   rw [List.getElem?_drop] at this;exact this
  have hl:i < ts.length:=(zah.mp ht).1;have hd:ts.drop (i+1)=us:=by rw [<- List.drop_drop,hu]; rfl
  obtain ⟨fl,e,h2⟩:=(hs i t en ht h).ex;cases fl with
  | nx e2 =>
   obtain ⟨r,e3,h3⟩:=(ih (i+1) (e2.set j none) hd hl h2).ex;exact W.of (show (b (en.set j (some t))).bind _=some r by rw [e]; exact e3) h3
  | ct e2 =>
   obtain ⟨r,e3,h3⟩:=(ih (i+1) (e2.set j none) hd hl h2).ex;exact W.of (show (b (en.set j (some t))).bind _=some r by rw [e]; exact e3) h3
  | rt r e2=>exact W.of (show (b (en.set j (some t))).bind _=some (.rt r e2) by rw [e]; rfl) h2
def mr {t:D} (hn:aj t=true) (hd:a7 t<=60):neD t t=some (.bool false):=by
 show grd _ _=_;unfold grd;rw [if_pos ⟨hn,hn,hd⟩,ei t hn];rfl
def lu:∀ l:List D,(∀ u∈l,aj u=true/\a7 u<=5)->au l=true/\aU l<=5
 | [],_=>⟨rfl,Nat.zero_le _⟩
 | u :: l,h=>by
  obtain ⟨h1,h2⟩:=lu l fun v hv=>h v (zaj _ hv);obtain ⟨a1,a2⟩:=h u zaq;exact ⟨by simp [au,a1,h1],by simp only [aU]; exact Nat.max_le.mpr ⟨a2,h2⟩⟩
def oW:∀ l:List Int,au (l.map PyData.int)=true/\aU (l.map PyData.int)=0
 | []=>⟨rfl,rfl⟩
 | k :: M=>by
  obtain ⟨h1,h2⟩:=oW M;rw [zar];exact ⟨by simp [au,aj,h1],by simp [aU,a7,h2]⟩
def qx (S:List Nat):aj (srt S)=true/\a7 (srt S)<=5:=by
 unfold srt;obtain ⟨h1,h2⟩:=oW (bL (S.map fun k:Nat=>(k:Int)));exact ⟨by simp only [aj]; exact h1,by simp only [a7,h2]; decide⟩
def ls (r:List (Option Nat)):aj (bf r)=true/\a7 (bf r)<=1:=by
 have:∀ r:List (Option Nat),au (r.map oD)=true/\aU (r.map oD)=0:=by
  intro r
  induction r with
  | nil=>exact ⟨rfl,rfl⟩
  | cons w r ih =>
   rw [zar];cases w <;> exact ⟨by simp [au,aj,oD,iD,ih.1],by simp [aU,a7,oD,iD,ih.2]⟩
 exact ⟨by simp only [bf,aj]; exact (this r).1,by simp only [bf,a7,(this r).2]; decide⟩
def BM (es:List Bool) (G:Gr):aj (mD es G)=true/\a7 (mD es G)<=60:=by
 have h1:au (es.map PyData.bool)=true/\aU (es.map PyData.bool)=0:=by
  induction es with
  | nil=>exact ⟨rfl,rfl⟩
  | cons w r ih =>
   rw [zar];exact ⟨by simp [au,aj,ih.1],by simp [aU,a7,ih.2]⟩
 obtain ⟨h2,h3⟩:=lu (G.map bf) fun u hu=>by
  obtain ⟨r,_,rfl⟩:=zaz.mp hu;exact ⟨(ls r).1,zau (ls r).2 (by decide)⟩
 unfold mD bsD gD;refine ⟨by simp [aj,au,h1.1,h2],?_⟩;simp only [a7,aU,h1.2];omega
def yu {l:List Int} (hl:l.length<=1000) {x0 x1 x2 x3 x4 x5 x6 x7 x8 x9:Option D}:W (dJ [x0,x1,x2,x3,x4,x5,x6,x7,x8,x9,some (.list (l.map .int))]) (fun fl=>∃ o,fl=.nx [x0,x1,x2,x3,x4,x5,x6,x7,x8,x9,o]):=by
 simp only [ws,dJ];refine h8 (fun _=>false) (fun t=>t) (szB (by rw [zad]; omega)) (fun t ht=>?_) (fun t ht h=>by cases h) fun o=>?_
 ·obtain ⟨z,hz,rfl⟩:=zaz.mp ht;simp only [ws,gz];refine W.use (show W (bJ [.int z]) (fun r=>r=(.bool true,[none])) by simp only [ws,bJ,fB]) ?_;rintro _ rfl;simp only [ws]
 ·have e0:neD (.list []) (.list [])=some (.bool false):=rfl;have ef:List.map (fun t=>t) (List.filter (fun _=>false) (l.map PyData.int))=[]:=by simp
  rw [ef];simp only [ws,e0];exact ⟨iJ (by omega),_,rfl⟩
def sw:D->D
 | .tuple [a,b]=>.tuple [b,a]
 | t=>t
def isO:D->Bool
 | .none=>false
 | _=>true
def gH (i:Nat):∀ r:List (Option Nat),((r.map oD).filter isO).map (fun t=>PyData.tuple [.int (i:Int),t])=(r.filterMap id).map fun t=>pD (i,t)
 | []=>rfl
 | none :: r=>by
  have:=gH i r;simpa [oD,isO] using this
 | some k :: r=>by
  have:=gH i r;show PyData.tuple [.int (i:Int),iD k] :: ((r.map oD).filter isO).map _=_;rw [this];rfl
def yw {i j:Nat} {b:MS} {en:En} {ts:List D} {Q:Fl->Prop} (h:(en[i]?).join=some (.list ts)) (h2:W (gW j b ts ((en.set i none).set j none)) Q):W (im i j b en) Q:=by
 obtain ⟨r,e,q⟩:=h2.ex;refine W.of ?_ q;unfold im;rw [h];exact e
def mh {S:List Nat}:(bL (S.map fun k:Nat=>(k:Int))).length=S.length:=by rw [(bE _).length_eq,zad]
def yn {es:List Bool} {G:Gr} (M:MOk es G) (P:List (Nat × Nat)) (pe:∀ s t,(s,t)∈P↔aO G s t) (hP:P.length<=1000):W (aR [.list (P.map pD),.list [.int 0]]) (fun r=>∃ S,r=(srt S,[none,none])/\S.Nodup/\∀ s,s∈S↔Rc (aO G) [0] s):=by
 have n:=M.n;have n1:=M.n1;have h:=ke (P:=P) (N:=G.length) (Q:=fun S=>∀ s∈S,Rc (aO G) [0] s) (l:=[0]) (by omega) (fun S s t q hs e _ u hu=>(zax.mp hu).elim (q u) fun hu=>by rw [zaG.mp hu]; exact .next (q s hs) ((pe s t).mp e)) (fun q hq=>M.g.lt q.1 q.2 ((pe q.1 q.2).mp hq)) (by simp) (fun s h=>by rw [zaG.mp h]; omega) (fun s h=>.first h) (by omega);refine W.use (show W (aR [.list (P.map pD),nD [0]]) _ from h) ?_;rintro _ ⟨S1,rfl,c1,c2,c3,c4,c5⟩;exact ⟨S1,rfl,c1,fun s=>⟨c2 s,fun h=>h.inn c3 fun s hs t e=>c5 s hs t ((pe s t).mpr e)⟩⟩
def ym {es:List Bool} {G:Gr} (M:MOk es G) (P:List (Nat × Nat)) (pe:∀ s t,(s,t)∈P↔aO G t s) (hP:P.length<=1000):W (aR [.list (P.map pD),.list ((aT es).map iD)]) (fun r=>∃ S,r=(srt S,[none,none])/\S.Nodup/\∀ s,s∈S↔Rc (fun s t=>aO G t s) (aT es) s):=by
 have n:=M.n;have he:=M.l;have h:=ke (P:=P) (N:=G.length) (Q:=fun S=>∀ s∈S,Rc (fun s t=>aO G t s) (aT es) s) (l:=aT es) (by omega) (fun S s t q hs e _ u hu=>(zax.mp hu).elim (q u) fun hu=>by rw [zaG.mp hu]; exact .next (q s hs) ((pe s t).mp e)) (fun q hq=>by
  obtain ⟨r,hr,_⟩:=(pe q.1 q.2).mp hq;exact (zah.mp hr).1) (jM es) (fun s h=>by rw [<- he]; exact jN s h) (fun s h=>.first h) (by omega)
 refine W.use h ?_;rintro _ ⟨S1,rfl,c1,c2,c3,c4,c5⟩;exact ⟨S1,rfl,c1,fun s=>⟨c2 s,fun h=>h.inn c3 fun s hs t e=>c5 s hs t ((pe s t).mpr e)⟩⟩
def iK {es:List Bool} {G:Gr} (M:MOk es G):W (aQ [mD es G]) (fun r=>r=(.bool true,[none])):=by
 have n:=M.n;have n1:=M.n1;have he:=M.l;have g:=M.g;have cp:=mL (es:=es) g;have mt:=xl M;have al:=pB M;have fm:=BM es G;have e1:atI [bsD es,gD G] 1=some (gD G):=rfl;have e0:atI [bsD es,gD G] 0=some (bsD es):=rfl;simp only [aQ,fC,ws,mD];simp only [gD,ws];refine dR (fun i en=>∃ (P:List (Nat × Nat)) (o2 o3:Option D),en=[some (.tuple [bsD es,.list (G.map bf)]),some (.list (P.map pD)),o2,o3,none,none,none,none,none,none,none]/\P.length<=12 * i/\∀ s t,(s,t)∈P↔s < i/\aO G s t) ⟨[],_,_,rfl,Nat.zero_le _,fun s t=>by simp⟩ ?_ ?_
 ·rintro i t en ht ⟨P,o2,o3,rfl,p1,p2⟩;obtain ⟨u,hu,rfl⟩:=dw ht;rw [zao] at hu;obtain ⟨r,hr,rfl⟩:=zab.mp hu;have hi:i < G.length:=(zah.mp hr).1;have rl:=g.w r (zaV hr);simp only [ws,gB,bf];refine h8 isO (fun t=>.tuple [.int (i:Int),t]) (szB (by rw [zad]; omega)) (fun t ht=>?_) (fun t ht _=>by simp only [ws,cr]) fun o=>?_
  ·obtain ⟨w,_,rfl⟩:=zaz.mp ht;cases w with
   | none=>simp only [ws,dH,oD,isO]
   | some k=>simp only [ws,dH,oD,iD,isO]
  ·rw [gH];have fl:(r.filterMap id).length<=r.length:=List.length_filterMap_le ..;simp only [ws];refine ⟨szB (by omega),P++(r.filterMap id).map fun t=>(i,t),_,_,by rw [zaC,zaP]; rfl,by rw [zae,zad]; omega,fun s t=>?_⟩;rw [zax,p2,zaz];constructor
   ·rintro (h | ⟨x,hx,e⟩)
    ·exact ⟨by omega,h.2⟩
    ·cases e;exact ⟨by omega,r,hr,by simpa using hx⟩
   ·rintro ⟨h1,h2⟩;by_cases e:s=i
    ·subst e;obtain ⟨r',hr',m⟩:=h2;rw [hr] at hr';cases hr';exact .inr ⟨t,by simpa using m,rfl⟩
    ·exact .inl ⟨by omega,h2⟩
 ·rintro en ⟨P,o2,o3,rfl,p1,p2⟩;rw [cC,zad] at p1 p2;have pe:∀ s t,(s,t)∈P↔aO G s t:=fun s t=>by
   rw [p2];exact ⟨fun h=>h.2,fun h=>⟨by obtain ⟨r,hr,_⟩:=h; exact (zah.mp hr).1,h⟩⟩
  simp only [ws];refine Cn (fun en=>∃ a b,en=[a,b]) sw (szB (by rw [zad]; omega)) ⟨_,_,rfl⟩ (fun t ht en hJ=>?_) fun en hJ=>?_
  ·obtain ⟨a,b,rfl⟩:=hJ;obtain ⟨⟨s,u⟩,_,rfl⟩:=zaz.mp ht;simp only [ws,cr,pD];exact ⟨rfl,_,_,rfl⟩
  have es':(P.map pD).map sw=(P.map fun q=>(q.2,q.1)).map pD:=by rw [zaP,zaP]; rfl
  obtain ⟨a,b,rfl⟩:=hJ;simp only [ws,es',bsD];refine qR (fun i us en=>us=((List.range i).filter fun k=>es.getD k false).map iD/\∃ a b,en=[a,b]) (szB (by rw [cC,zad]; omega)) ⟨rfl,_,_,rfl⟩ ?_ ?_
  ·rintro i t us en ht hl ⟨rfl,a,b,rfl⟩;obtain ⟨u,hu,rfl⟩:=dw ht;rw [zao] at hu;obtain ⟨x,hx,rfl⟩:=zab.mp hu;have ex:es.getD i false=x:=by rw [List.getD_eq_getElem?_getD,hx]; rfl
   have er:(List.range (i+1)).filter (fun k=>es.getD k false)=(List.range i).filter (fun k=>es.getD k false)++(if x then [i] else []):=by
    rw [List.range_succ,List.filter_append];congr 1;have ex':es[i]?.getD false=x:=by rw [hx]; rfl
    cases x <;> simp [List.filter_cons,ex']
   cases x with
   | true =>
    simp only [ws,dG,cq];rw [er,zaC];exact ⟨rfl,_,_,rfl⟩
   | false =>
    simp only [ws,dG,cq];rw [er,zaC];exact ⟨(List.append_nil _).symm,_,_,rfl⟩
  ·rintro us en _ ⟨rfl,a,b,rfl⟩;rw [cC,zad];have ee:(List.range es.length).filter (fun k=>es.getD k false)=aT es:=rfl;rw [ee];simp only [ws];have cA:=yn M P pe (by omega);have pe2:∀ s t,(s,t)∈(P.map fun q=>(q.2,q.1))↔aO G t s:=fun s t=>by
    rw [<- pe];constructor
    ·intro h;obtain ⟨q,hq,e⟩:=zaz.mp h;cases e;exact hq
    ·exact fun h=>zaz.mpr ⟨(t,s),h,rfl⟩
   have cB:=ym M (P.map fun q=>(q.2,q.1)) pe2 (by rw [zad]; omega);refine W.use cA ?_;rintro _ ⟨S1,rfl,c1,k1⟩;simp only [ws];refine W.use cB ?_;rintro _ ⟨S2,rfl,d1,k2⟩;simp only [ws];refine W.use cp ?_;rintro _ rfl;simp only [ws];have ff:neD (.list [srt S1,srt S2]) (.list [srt S1,srt S2])=some (.bool false):=by
    obtain ⟨h1,h2⟩:=lu [srt S1,srt S2] fun u hu=>by
     simp only [zay,List.not_mem_nil,or_false] at hu;rcases hu with rfl | rfl <;> exact qx _
    exact mr (by simp only [aj]; exact h1) (by simp only [a7]; omega)
   have em:neD (mD es G) (.tuple [.list (es.map .bool),.list (G.map bf)])=some (.bool false):=mr fm.1 fm.2;have lim:∀ (S:List Nat),S.Nodup->(∀ s∈S,s < G.length)->S.length<=24:=fun S a b=>zau (ca a b) n;have lR:∀ s,Rc (aO G) [0] s->s < G.length:=fun s h=>by
    cases h with
    | first h=>rw [zaG.mp h]; omega
    | next _ e=>exact g.lt _ _ e
   have lA:∀ s,Rc (fun s t=>aO G t s) (aT es) s->s < G.length:=fun s h=>by
    cases h with
    | first h=>rw [<- he]; exact jN s h
    | next _ e =>
     obtain ⟨r,hr,_⟩:=e;exact (zah.mp hr).1
   have l1:=lim S1 c1 fun s h=>lR s ((k1 s).mp h);have l2:=lim S2 d1 fun s h=>lA s ((k2 s).mp h);refine ⟨by decide,Cp (fun en=>∃ o8 o9 o10,en=[some (.tuple [.list (es.map .bool),.list (G.map bf)]),some (.list (P.map pD)),o2,o3,some (.list ((P.map fun q=>(q.2,q.1)).map pD)),some (.list ((aT es).map iD)),some (.list [srt S1,srt S2]),some (mD es G),o8,o9,o10]) ⟨_,_,_,rfl⟩ (fun t ht en hJ=>?_) fun en hJ=>?_⟩
   ·obtain ⟨o8,o9,o10,rfl⟩:=hJ;simp only [ws,gA];refine W.use mt ?_;rintro _ ⟨S3,rfl,m1,m2⟩;have e3:srt S3=srt S1:=kQ m1 c1 fun s=>by rw [m2,k1]
    simp only [ws,e3];refine W.use al ?_;rintro _ ⟨S4,rfl,m1,m2⟩;have e4:srt S4=srt S2:=kQ m1 d1 fun s=>by rw [m2,k2]
    simp only [ws,e4,ff,em];refine yw (ts:=[srt S1,srt S2]) rfl ?_;refine Co (fun i en=>∃ o8 o9 o10,en=[some (.tuple [.list (es.map .bool),.list (G.map bf)]),some (.list (P.map pD)),o2,o3,some (.list ((P.map fun q=>(q.2,q.1)).map pD)),some (.list ((aT es).map iD)),some (.list [srt S1,srt S2]),some (mD es G),o8,o9,o10]) ⟨_,_,_,rfl⟩ (fun i u en hu hJ=>?_) fun en hJ=>?_
    ·obtain ⟨o8,o9,o10,rfl⟩:=hJ;have hu':u=srt S1\/u=srt S2:=by
      have:=zaV hu;simpa using this
     have:∃ l:List Int,u=.list (l.map .int)/\l.length<=1000:=by
      rcases hu' with rfl | rfl
      ·exact ⟨_,rfl,by rw [mh]; omega⟩
      ·exact ⟨_,rfl,by rw [mh]; omega⟩
     obtain ⟨l,rfl,hl⟩:=this;refine W.use (yu hl) ?_;rintro _ ⟨o,rfl⟩;exact ⟨_,_,_,rfl⟩
    ·obtain ⟨o8,o9,o10,rfl⟩:=hJ;simp only [ws];exact ⟨_,_,_,rfl⟩
   ·obtain ⟨o8,o9,o10,rfl⟩:=hJ;simp only [ws]
def chG (m c:Nat):Gr:=(List.range m).map fun k=>if k=c\/k=m - 1 then [none] else [some (k+1)]
def chE (m e:Nat):List Bool:=(List.range m).map fun k=>decide (k=e)
def dY {m c:Nat}:(chG m c).length=m:=by unfold chG; rw [zad,List.length_range]
def chG_edge {m c s t:Nat}:aO (chG m c) s t↔s < m/\s≠c/\s≠m - 1/\t=s+1:=by
 unfold aO chG;constructor
 ·rintro ⟨r,hr,h⟩;rw [zao] at hr;obtain ⟨k,hk,rfl⟩:=zab.mp hr;obtain ⟨h1,h2⟩:=zah.mp hk;rw [List.length_range] at h1;rw [List.getElem_range] at h2;subst h2;split at h
  ·simp at h
  ·next hn =>
   have:t=s+1:=by simpa using h
   exact ⟨h1,fun z=>hn (.inl z),fun z=>hn (.inr z),this⟩
 ·rintro ⟨h1,h2,h3,rfl⟩;refine ⟨[some (s+1)],?_,by simp⟩;rw [zao,List.getElem?_range h1];show some (if s=c\/s=m - 1 then _ else _)=_;rw [if_neg (by omega)]
def jv {m c:Nat} (hm:m<=990):GOk (chG m c):=by
 refine ⟨by rw [dY]; omega,fun r hr=>?_,fun s t e=>?_⟩
 ·unfold chG at hr;obtain ⟨k,_,rfl⟩:=zaz.mp hr;split <;> simp
 ·rw [dY]
  have:=chG_edge.mp e;omega
def yh {m e:Nat} (he:e < m):aT (chE m e)=[e]:=by
 have hl:(chE m e).length=m:=by unfold chE; rw [zad,List.length_range]
 have hg:∀ k,k < m->(chE m e).getD k false=decide (k=e):=fun k hk=>by
  unfold chE;rw [List.getD_eq_getElem?_getD,zao,List.getElem?_range hk];rfl
 refine List.perm_singleton.mp ((List.perm_ext_iff_of_nodup (jM _) (by simp)).mpr fun k=>?_);unfold aT;rw [List.mem_filter,List.mem_range,hl,zaG];constructor
 ·rintro ⟨h1,h2⟩;rw [hg k h1] at h2;exact of_decide_eq_true h2
 ·rintro rfl;exact ⟨he,by rw [hg k he]; simp⟩
def nL:∀ (n:Nat) (x:Nat),oneB.go (x:Int) ((List.range' (x+1) n).map fun k:Nat=>(k:Int)) true=true
 | 0,x=>rfl
 | n+1,x=>by
  rw [List.range'_succ];show (decide ((x:Int)<=((x+1:Nat):Int)) && oneB.go ((x+1:Nat):Int) ((List.range' (x+1+1) n).map fun k:Nat=>(k:Int)) true)=true;rw [nL n (x+1),Bool.and_true,decide_eq_true_iff];omega
def Dq (n:Nat) (hn:n<=4000):cO ((List.range (n+1)).map fun k:Nat=>(k:Int)):=by
 refine .inr ⟨?_,by rw [zad,List.length_range]; omega⟩;rw [List.range_eq_range',List.range'_succ];show (oneB.go ((0:Nat):Int) _ true || _)=true;rw [nL n 0];rfl
def lx:∀ (n:Nat) (x:Nat) (f:Nat->Nat),(∀ i,i < n->f i+i+1=x)->oneB.go (x:Int) (((List.range n).map f).map fun k:Nat=>(k:Int)) false=true
 | 0,x,f,_=>rfl
 | n+1,x,f,h=>by
  rw [List.range_succ_eq_map,zar,zaP];have h0:=h 0 (by omega);show (decide (((f 0:Nat):Int) < (x:Int)) && oneB.go ((f 0:Nat):Int) (((List.range n).map (f ∘ Nat.succ)).map fun k:Nat=>(k:Int)) false)=true;rw [lx n (f 0) (f ∘ Nat.succ) (fun i hi=>by
   have:=h (i+1) (by omega);show f (i+1)+i+1=f 0;omega),Bool.and_true,decide_eq_true_iff]
  omega
def dQ (e k:Nat):List Nat:=(List.range (k+1)).map fun i=>e - i
def yk (e k:Nat) (hk:k<=e) (he:e<=4000):cO ((dQ e k).map fun k:Nat=>(k:Int)):=by
 refine .inr ⟨?_,by unfold dQ; rw [zad,zad,List.length_range]; omega⟩;have e0:dQ e k=(e - 0) :: (List.range k).map ((fun i=>e - i) ∘ Nat.succ):=by unfold dQ; rw [List.range_succ_eq_map,zar,zaP]
 rw [e0,zar];show (oneB.go ((e - 0:Nat):Int) _ true || oneB.go ((e - 0:Nat):Int) (((List.range k).map ((fun i=>e - i) ∘ Nat.succ)).map fun k:Nat=>(k:Int)) false)=true;rw [lx k (e - 0) _ (fun i hi=>by
  show e - (i+1)+i+1=e - 0;omega)]
 simp
def fU {e k s:Nat} (hk:k<=e):s∈dQ e k↔e - k<=s/\s<=e:=by
 unfold dQ;rw [zaz];constructor
 ·rintro ⟨i,hi,rfl⟩
  have:=List.mem_range.mp hi;omega
 ·rintro ⟨h1,h2⟩;exact ⟨e - s,List.mem_range.mpr (by omega),by omega⟩
def j4 {l:List Nat} (h:l.Pairwise (·<=·)):srt l=nD l:=by
 unfold srt nD;have e:bL (l.map fun k:Nat=>(k:Int))=l.map fun k:Nat=>(k:Int):=fS (bE _) (bN _) (List.pairwise_map.mpr (h.imp fun {a b} h=>Int.ofNat_le.mpr h));rw [e,zaP];rfl
def Bd {m c e:Nat} (h1:1<=m) (hm:m<=990) (hc:c < m):W (fy [mD (chE m e) (chG m c)]) (fun r=>r=(nD (List.range (c+1)),[none])):=by
 have kp:Keeps (chG m c) (fun S=>∃ k,k<=c/\S=List.range (k+1)):=by
  refine ⟨(jv hm).lt,?_,?_⟩
  ·rintro S s t ⟨k,hk,rfl⟩ hs he ht;obtain ⟨e1,e2,e3,rfl⟩:=chG_edge.mp he;rw [List.mem_range] at hs ht
   have:s=k:=by omega
   subst this;exact ⟨s+1,by omega,by rw [List.range_succ (n:=s+1)]⟩
  ·rintro S ⟨k,hk,rfl⟩ _ _;exact Dq k (by omega)
 refine W.use (oe kp (jv hm) (by rw [dY]; exact h1) ⟨0,Nat.zero_le _,rfl⟩) ?_;rintro _ ⟨S,rfl,g1,⟨k,hk,rfl⟩,g3,g4,g5⟩;have ek:k=c:=by
  by_cases z:k=c
  ·exact z
  ·have:=g5 k (List.mem_range.mpr (by omega)) (k+1) (chG_edge.mpr ⟨by omega,z,by omega,rfl⟩);rw [List.mem_range] at this;omega
 subst ek;rw [j4];exact (List.pairwise_lt_range).imp fun h=>zaU h
def qQ {m c e:Nat} (h1:1<=m) (hm:m<=990) (hc:c < m) (he:e < m):W (ce [mD (chE m e) (chG m c)]) (fun r=>r=(nD ((List.range (e+1)).drop (if c < e then c+1 else 0)),[none])):=by
 obtain ⟨b,hb⟩:∃ b,(if c < e then c+1 else 0)=b:=⟨_,rfl⟩;have b1:b<=e:=by rw [<- hb]; split <;> omega
 have b2:∀ t,b<=t->t < e->t≠c:=fun t q1 q2=>by
  rw [<- hb] at q1;split at q1 <;> omega
 have b3:∀ t,t≠c->b<=t+1->b<=t:=fun t q1 q2=>by
  rw [<- hb] at q2 ⊢;split at q2 <;> rename_i z
  ·rw [if_pos z]; omega
  ·rw [if_neg z]; omega
 rw [hb];have q0:(fun S:List Nat=>∃ k,k<=e - b/\S=dQ e k) (aT (chE m e)):=⟨0,Nat.zero_le _,by rw [yh he]; rfl⟩;refine W.use (lG (Q:=fun S=>∃ k,k<=e - b/\S=dQ e k) (jv hm) (by rw [dY]; unfold chE; rw [zad,List.length_range]) (fun B l1 l2=>?_) q0) ?_
 ·have tl:(toG B).length=m:=by unfold toG; rw [zad,l1,dY]
  refine ⟨fun s t h=>?_,?_,?_⟩
  ·have:=chG_edge.mp ((l2 s t).mp h);rw [tl];omega
  ·rintro S s t ⟨k,hk,rfl⟩ hs h ht;obtain ⟨e1,e2,e3,e4⟩:=chG_edge.mp ((l2 s t).mp h);rw [fU (by omega)] at hs ht;have et:t+1=e - k:=by omega
   have:=b3 t e2 (by omega);refine ⟨k+1,by omega,?_⟩;unfold dQ;rw [List.range_succ (n:=k+1),zaC];show _++[t]=_++[e - (k+1)];rw [show e - (k+1)=t by omega]
  ·rintro S ⟨k,hk,rfl⟩ _ _;exact yk e k (by omega) (by omega)
 ·rintro _ ⟨S,rfl,g1,⟨k,hk,rfl⟩,g3,g4,g5⟩;have ek:k=e - b:=by
   by_cases z:k=e - b
   ·exact z
   ·have:=g5 (e - k) ((fU (by omega)).mpr ⟨by omega,by omega⟩) (e - k - 1) (chG_edge.mpr ⟨by omega,b2 _ (by omega) (by omega),by omega,by omega⟩);rw [fU (by omega)] at this;omega
  subst ek;have nd2:((List.range (e+1)).drop b).Nodup:=(List.nodup_range).sublist (List.drop_sublist ..);have pw:((List.range (e+1)).drop b).Pairwise (·<=·):=((List.pairwise_lt_range).imp fun h=>zaU h).sublist (List.drop_sublist ..);rw [<- j4 pw];rw [kQ g1 nd2 fun s=>?_];rw [fU (by omega),List.mem_drop_iff_getElem];simp only [List.getElem_range,List.length_range];constructor
  ·rintro ⟨h1,h2⟩;exact ⟨s - b,by omega,by omega⟩
  ·rintro ⟨i,hi,rfl⟩;omega
def wq {M r w:Int} (hM:1<=M) (r0:0<=r) (r1:r < M) (w0:0<=w) (w1:w < 2):∃ z:Nat,atI [PyData.int (M - 1),.int r] w=some (.int (z:Int))/\(z:Int) < M:=by
 have hw:w=0\/w=1:=by omega
 rcases hw with rfl | rfl
 ·exact ⟨(M - 1).toNat,by rw [Int.toNat_of_nonneg (by omega)]; rfl,by omega⟩
 ·exact ⟨r.toNat,by rw [Int.toNat_of_nonneg (by omega)]; rfl,by omega⟩
def xr {m c:Nat} (h1:1<=m) (hc:c < m):(((List.range (m - 1)).map fun k:Nat=>PyData.list [.int ((k:Int)+1)])++[PyData.list [.none]]).set c (PyData.list [.none])=(chG m c).map bf:=by
 refine List.ext_getElem? fun i=>?_;by_cases hi:i < m
 ·have er:((chG m c).map bf)[i]?=some (bf (if i=c\/i=m - 1 then [none] else [some (i+1)])):=by
   unfold chG;rw [zao,zao,List.getElem?_range hi];rfl
  rw [er];by_cases e:i=c
  ·subst e;rw [zaN (by rw [zae,zad,List.length_range]; show i < m - 1+1; omega),if_pos (.inl rfl)];rfl
  ·rw [zaM (Ne.symm e)];by_cases e2:i=m - 1
   ·rw [if_pos (.inr e2),List.getElem?_append_right (by rw [zad,List.length_range]; omega),zad,List.length_range,e2,Nat.sub_self];rfl
   ·rw [if_neg (by omega),zaQ (by rw [zad,List.length_range]; omega),zao,List.getElem?_range (by omega)];rfl
 ·rw [List.getElem?_eq_none (by rw [zaT,zae,zad,List.length_range]; show m - 1+1<=i; omega),List.getElem?_eq_none (by rw [zad,dY]; omega)]
def inc:D->D
 | .int z=>.list [.int (z+1)]
 | t=>t
def isE (e:Nat):D->D
 | .int z=>.bool (decide (z=(e:Int)))
 | _=>.bool false
def wS (n:Nat):(eh 0 n).map inc=(List.range n).map fun k:Nat=>PyData.list [.int ((k:Int)+1)]:=by
 unfold eh;rw [zaP];refine List.map_congr_left fun k _=>?_;show PyData.list [.int (0+(k:Int)+1)]=_;rw [Int.zero_add]
def wR (n e:Nat):(eh 0 n).map (isE e)=(chE n e).map PyData.bool:=by
 unfold eh chE;rw [zaP,zaP];refine List.map_congr_left fun k _=>?_;show PyData.bool (decide (0+(k:Int)=(e:Int)))=.bool (decide (k=e));congr 1;rw [decide_eq_decide];omega
def oh (n:Nat) (hn:n<=1000):jc [.int ((n:Int)+1)]=some (nD (List.range (n+1))):=by
 show grd _ _=_;unfold grd;rw [if_pos ⟨by omega,by omega⟩,show ((n:Int)+1).toNat=n+1 by omega];rfl
def nE {α:Type} (xs:List α) (n:Nat):dD xs (some (n:Int)) none=xs.drop n:=by
 unfold dD;rw [HT.sIx_none,HT.sIx_nat,List.take_of_length_le (by rw [zaF]; exact zav _)];by_cases h:n<=xs.length
 ·rw [Nat.min_eq_left h]
 ·rw [Nat.min_eq_right (by omega),List.drop_eq_nil_of_le (zav _),List.drop_eq_nil_of_le (by omega)]
def jn (l:List Nat):aj (nD l)=true/\a7 (nD l)<=60:=by
 obtain ⟨h1,h2⟩:=fK l;exact ⟨by simp only [nD,aj]; exact h1,by simp only [nD,a7,h2]; decide⟩
def qL {p:D} (hp:IsPen p):W (a5 [p]) (fun r=>∃ p',r=(.bool true,[some p'])/\IsPen p'):=by
 simp only [a5,b7,ws];refine bi hp (by decide) (by decide) fun r p1 r0 r1 hp1=>?_;obtain ⟨m,hm⟩:∃ m:Nat,(1+r)=(m:Int):=⟨(1+r).toNat,by omega⟩;simp only [ws,hm];refine bi hp1 (by omega) (by omega) fun a p2 a0 a1 hp2=>?_;simp only [ws];refine bi hp2 (by decide) (by decide) fun w p3 w0 w1 hp3=>?_;obtain ⟨c,ec,hc⟩:=wq (M:=(m:Int)) (by omega) a0 a1 w0 w1;simp only [ws,ec];refine bi hp3 (by omega) (by omega) fun a p4 a0 a1 hp4=>?_;simp only [ws];refine bi hp4 (by decide) (by decide) fun w p5 w0 w1 hp5=>?_;obtain ⟨e,ee,he⟩:=wq (M:=(m:Int)) (by omega) a0 a1 w0 w1;simp only [ws,ee];have hc':c < m:=by omega
 have he':e < m:=by omega
 have m1:1<=m:=by omega
 have m9:m<=990:=by omega
 have tm:((m:Int) - 1).toNat=m - 1:=by omega
 rw [tm];refine ⟨⟨by omega,by omega⟩,hZ inc (szB (by rw [cT]; omega)) (fun t ht=>?_) fun o=>?_⟩
 ·obtain ⟨k,hk⟩:=List.getElem?_of_mem ht;obtain ⟨hk',rfl⟩:=fF hk;simp only [ws,cQ,inc]
 rw [wS];have hl:(((List.range (m - 1)).map fun k:Nat=>PyData.list [.int ((k:Int)+1)])++[PyData.list [.none]]).length=m:=by
  rw [zae,zad,List.length_range];show m - 1+1=m;omega
 have si:cE (((List.range (m - 1)).map fun k:Nat=>PyData.list [.int ((k:Int)+1)])++[PyData.list [.none]]) (c:Int) (.list [.none])=some ((chG m c).map bf):=by
  have ix:ixN m (c:Int)=some c:=by
   unfold ixN;rw [if_pos (by omega)];simpa using hc'
  unfold cE;rw [hl,ix];exact congrArg some (xr m1 hc')
 simp only [ws,si];have tm2:((m:Nat):Int).toNat=m:=zaJ _;rw [tm2];refine ⟨szB (by rw [List.length_range]; show _+1<=_; omega),⟨by omega,by omega⟩,hZ (isE e) (szB (by rw [cT]; omega)) (fun t ht=>?_) fun o=>?_⟩
 ·obtain ⟨k,hk⟩:=List.getElem?_of_mem ht;obtain ⟨hk',rfl⟩:=fF hk;simp only [ws,cP,isE]
 rw [wR];have cp:=mL (es:=chE m e) (jv (c:=c) m9);have fe:mD (chE m e) (chG m c)=.tuple [.list ((chE m e).map .bool),.list ((chG m c).map bf)]:=rfl;have mt:=Bd (e:=e) m1 m9 hc';have al:=qQ m1 m9 hc' he';rw [fe] at cp mt al;have q1:=mJ (jn (List.range (c+1))).1 (jn _).2;have q2:=mJ (jn (List.drop (if c < e then c+1 else 0) (List.range (e+1)))).1 (jn _).2;have lc:=oh c (by omega);simp only [ws,oh e (by omega)];by_cases hce:c < e
 ·have dt:decide ((c:Int) < (e:Int))=true:=by rw [decide_eq_true_iff]; omega
  rw [if_pos hce] at al q2;have ed:PyData.list (dD (List.map iD (List.range (e+1))) (some ((c:Int)+1)) none)=nD (List.drop (c+1) (List.range (e+1))):=by
   rw [show ((c:Int)+1)=((c+1:Nat):Int) from rfl,nE,<- List.map_drop];rfl
  have en:nD (List.range (e+1))=.list (List.map iD (List.range (e+1))):=rfl;rw [en];simp only [ws,dt,ed];refine W.use cp ?_;rintro _ rfl;simp only [ws];refine W.use mt ?_;rintro _ rfl;simp only [ws,lc,q1];refine W.use cp ?_;rintro _ rfl;simp only [ws];refine W.use al ?_;rintro _ rfl;simp only [ws,q2];exact ⟨p5,rfl,hp5⟩
 ·have dt:decide ((c:Int) < (e:Int))=false:=by rw [decide_eq_false_iff_not]; omega
  rw [if_neg hce,List.drop_zero] at al q2;simp only [ws,dt];refine W.use cp ?_;rintro _ rfl;simp only [ws];refine W.use mt ?_;rintro _ rfl;simp only [ws,lc,q1];refine W.use cp ?_;rintro _ rfl;simp only [ws];refine W.use al ?_;rintro _ rfl;simp only [ws,q2];exact ⟨p5,rfl,hp5⟩
def CM {n:Nat} {u:D} (h:eW n u=true):∃ w:Option Nat,u=oD w/\∀ k,w=some k->k < n:=by
 cases u with
 | none=>exact ⟨none,rfl,fun _ z=>by cases z⟩
 | int z =>
  simp only [eW,Bool.and_eq_true,decide_eq_true_eq] at h;exact ⟨some z.toNat,by show _=PyData.int _; rw [Int.toNat_of_nonneg h.1],fun k e=>by cases e; omega⟩
 | _=>cases h
def n8 {n:Nat}:∀ {ts:List D},ts.all (eW n)=true->∃ r:List (Option Nat),ts=r.map oD/\∀ k,some k∈r->k < n
 | [],_=>⟨[],rfl,fun _ z=>by cases z⟩
 | u :: ts,h=>by
  rw [List.all_cons,Bool.and_eq_true] at h;obtain ⟨w,rfl,hw⟩:=CM h.1;obtain ⟨r,rfl,hr⟩:=n8 h.2;exact ⟨w :: r,rfl,fun k z=>(zay.mp z).elim (fun z=>hw k z.symm) (hr k)⟩
def nT {S n:Nat} (hS:S<=12):∀ {gs:List D},(∀ u∈gs,ir S n u=true)->∃ G:Gr,gs=G.map bf/\(∀ r∈G,r.length<=12/\∀ k,some k∈r->k < n)
 | [],_=>⟨[],rfl,fun _ z=>by cases z⟩
 | u :: gs,h=>by
  obtain ⟨G,rfl,hG⟩:=nT hS fun v hv=>h v (zaj _ hv);have hu:=h u zaq;cases u with
  | list ts =>
   simp only [ir,Bool.and_eq_true,decide_eq_true_eq] at hu;obtain ⟨r,rfl,hr⟩:=n8 hu.2;rw [zad] at hu;refine ⟨r :: G,rfl,fun r' z=>?_⟩;rcases zay.mp z with rfl | z
   ·exact ⟨by omega,hr⟩
   ·exact hG r' z
  | _=>cases hu
def we:∀ {es:List D},(∀ u∈es,lm u=true)->∃ bs:List Bool,es=bs.map .bool
 | [],_=>⟨[],rfl⟩
 | u :: es,h=>by
  obtain ⟨bs,rfl⟩:=we fun v hv=>h v (zaj _ hv);have hu:=h u zaq;cases u with
  | bool b=>exact ⟨b :: bs,rfl⟩
  | _=>cases hu
def Bf {S:Nat} {es gs:List D} (M:Mc S es gs):∃ bs G,PyData.tuple [.list es,.list gs]=mD bs G/\MOk bs G:=by
 obtain ⟨bs,rfl⟩:=we M.eb;obtain ⟨G,rfl,hG⟩:=nT M.s2 M.gr;have gl:=M.gl;have ne:=M.ne;have le:=M.le;rw [zad] at gl;rw [zad] at gl ne le;refine ⟨bs,G,rfl,⟨⟨by omega,fun r hr=>(hG r hr).1,fun s t ⟨r,hr,m⟩=>?_⟩,by omega,by omega,by omega⟩⟩
 have:=(hG r (zaV hr)).2 t m;rw [zad] at this;omega
def p0:Bi nI:=by
 intro ns hn
 suffices W (nI [.list (ns.map .int)]) (fun r=>∃ o,r=(.bool true,o)) by
  obtain ⟨_,e,o,rfl⟩:=this.ex;exact ⟨o,e⟩
 simp only [ws,nI,qX];refine kG (by decide) hn fun p hp=>?_;simp only [ws];refine bi hp (by decide) (by decide) fun r p1 r0 r1 hp1=>?_;obtain ⟨S,hS⟩:∃ S:Nat,(1+r)=(S:Int):=⟨(1+r).toNat,by omega⟩;simp only [ws,hS];refine W.use (wx (M:=24) (S:=S) hp1 (by decide) (by decide) (by omega) (by omega)) ?_;rintro _ ⟨es,gs,p2,rfl,M1,hp2⟩;obtain ⟨b1,G1,e1,O1⟩:=Bf M1;rw [e1];simp only [ws];refine kG (by decide) hn fun q hq=>?_;simp only [ws];refine bi hp2 (by decide) (by decide) fun r' p3 r0' r1' hp3=>?_;obtain ⟨T,hT⟩:∃ T:Nat,(1+r')=(T:Int):=⟨(1+r').toNat,by omega⟩;simp only [ws,hT];refine W.use (wx (M:=24) (S:=T) hq (by decide) (by decide) (by omega) (by omega)) ?_;rintro _ ⟨es',gs',p4,rfl,M2,hp4⟩;obtain ⟨b2,G2,e2,O2⟩:=Bf M2;rw [e2];simp only [ws];have fin:∀ x1 x2:Option D,W ((aN (dC (av aQ (af (ae 3) ai)) (dC (av aQ (af (ae 4) ai)) (av aQ (af (ae 3) ai))))) [some (.list (ns.map .int)),x1,x2,some (mD b1 G1),some (mD b2 G2)]) (kFn [0] fun r=>∃ o,r=(.bool true,o)):=fun x1 x2=>by
  simp only [ws];refine W.use (iK O1) ?_;rintro _ rfl;simp only [ws];refine W.use (iK O2) ?_;rintro _ rfl;simp only [ws];refine W.use (iK O1) ?_;rintro _ rfl;simp only [ws];exact ⟨_,rfl⟩
 refine bi hp3 (by decide) (by decide) fun w p5 w0 w1 hp5=>?_;by_cases h3:w=3
 ·simp only [ws,h3];refine kG (by decide) hn fun q2 hq2=>?_;simp only [ws];refine W.use (qL hq2) ?_;rintro _ ⟨q3,rfl,_⟩;simp only [ws]
  have:=fin (some p5) (some (.int (S:Int)));simp only [ws] at this;exact this
 ·simp only [ws,h3]
  have:=fin (some p5) (some (.int (S:Int)));simp only [ws] at this;exact this
end W12
set_option maxHeartbeats 4000000
namespace W12
open PySem L2
def fY {α β:Type} {us:List α} {x0:β} (h:us.length=[x0].length):∃ a0,us=[a0]:=by
 cases us with
 | nil=>cases h
 | cons a0 r=>exact ⟨a0,by rw [List.length_eq_zero_iff.mp (show r.length=0 from Nat.succ.inj h)]⟩
def k7 {α β:Type} {us:List α} {x0 x1:β} (h:us.length=[x0,x1].length):∃ a0 a1,us=[a0,a1]:=by
 cases us with
 | nil=>cases h
 | cons a0 r=>obtain ⟨a1,rfl⟩:=fY (us:=r) (x0:=x1) (Nat.succ.inj h); exact ⟨a0,a1,rfl⟩
def Dy {α β:Type} {us:List α} {x0 x1 x2:β} (h:us.length=[x0,x1,x2].length):∃ a0 a1 a2,us=[a0,a1,a2]:=by
 cases us with
 | nil=>cases h
 | cons a0 r=>obtain ⟨a1,a2,rfl⟩:=k7 (us:=r) (x0:=x1) (x1:=x2) (Nat.succ.inj h); exact ⟨a0,a1,a2,rfl⟩
def all_mk {l:PySem.W.OpenLaw} {w:World} {K:PySem.W.Frag} {h:Heap} {mg:Str->Option Value} {fa f0 f1 f2 f3 f4 f5 f6 f7 f8 f9 f10 f11 f12 f13:Addr}  (X:K.In h) (G:h.Ns mainGlobals mg) (hfa:mg "law"=some (.ref fa))
  (d0:Df K "marked" jX f0)
  (d1:Df K "reached" iW f1)
  (d2:Df K "met" qT f2)
  (d3:Df K "ways_back" dS f3)
  (d4:Df K "alive" jx f4)
  (d5:Df K "_law_pen" h9 f5)
  (d6:Df K "_law_take" gt f6)
  (d7:Df K "_law_machine" ck f7)
  (d8:Df K "_law_whole" fu f8)
  (d9:Df K "_law_copy" dU f9)
  (d10:Df K "_law_closed" cK f10)
  (d11:Df K "_law_right" bx f11)
  (d12:Df K "_law_chain_right" bj f12)
  (d13:Df K "law" iX f13)
  (z0:PySem.W.nsIn K mainGlobals "abs"=some none)
  (z1:PySem.W.nsIn K mainGlobals "bool"=some none)
  (z2:PySem.W.nsIn K mainGlobals "dict"=some none)
  (z3:PySem.W.nsIn K mainGlobals "enumerate"=some none)
  (z4:PySem.W.nsIn K mainGlobals "int"=some none)
  (z5:PySem.W.nsIn K mainGlobals "isinstance"=some none)
  (z6:PySem.W.nsIn K mainGlobals "len"=some none)
  (z7:PySem.W.nsIn K mainGlobals "list"=some none)
  (z8:PySem.W.nsIn K mainGlobals "max"=some none)
  (z9:PySem.W.nsIn K mainGlobals "range"=some none)
  (z10:PySem.W.nsIn K mainGlobals "sorted"=some none) :
  ∃ fd:FuncData,(∀ (s:Shared) (v:Value),BindsTo s fd ⟨[v],[]⟩ [("_law_script",v)])/\∀ base:Heap,K.In base->base.Ns mainGlobals mg->FnOk l.prog w K mg base CX0 5 fa fd ["_law_script"] (i4 K):=by
 have e:=hfa.symm.trans (PySem.W.mg_of X G d13.a);cases e;have T:Bl mg:=⟨za6 X G z0,za6 X G z1,za6 X G z2,za6 X G z3,za6 X G z4,za6 X G z5,za6 X G z6,za6 X G z7,za6 X G z8,za6 X G z9,za6 X G z10⟩;obtain ⟨oc,od,kV,dc,pm,an,cd,ct,sl,ll,lc⟩:=d13.l;have FL:=oJ (st:=iX) ll lc d13.k;refine ⟨PySem.W.fnOf "law" "law" (cD iX) (bH iX) (am iX) .none kV dc pm an cd ct,fun s v=>.of_eq rfl,fun base _ _=>?_⟩;have g0:Kn l.prog w K mg base 1 "marked" ["things"] (spF K [0] 1 dZ):=d0.kn X G (fun _ _ _ _ _ _ us hl=>by obtain ⟨a0,rfl⟩:=fY hl; rfl) fun _ F=>pY (k:=0) T     F;have g1:Kn l.prog w K mg base 2 "reached" ["first", "goes"] (spF K [0,0] 1 bV):=d1.kn X G (fun _ _ _ _ _ _ us hl=>by obtain ⟨a0,a1,rfl⟩:=k7 hl; rfl) fun _ F=>nZ (k:=1) T  (g0.mono (by decide))   F;have g2:Kn l.prog w K mg base 3 "met" ["machine"] (spF K [0] 1 fy):=d2.kn X G (fun _ _ _ _ _ _ us hl=>by obtain ⟨a0,rfl⟩:=fY hl; rfl) fun _ F=>CK (k:=2) T  (g1.mono (by decide))   F;have g3:Kn l.prog w K mg base 1 "ways_back" ["goes"] (spF K [0] 0 b5):=d3.kn X G (fun _ _ _ _ _ _ us hl=>by obtain ⟨a0,rfl⟩:=fY hl; rfl) fun _ F=>lW (k:=0) T     F;have g4:Kn l.prog w K mg base 3 "alive" ["machine"] (spF K [0] 1 ce):=d4.kn X G (fun _ _ _ _ _ _ us hl=>by obtain ⟨a0,rfl⟩:=fY hl; rfl) fun _ F=>xh (k:=2) T  (g1.mono (by decide)) (g3.mono (by decide))   F;have g5:Kn l.prog w K mg base 1 "_law_pen" ["_law_script", "_law_k"] (spF K [0,0] 1 F_law_pen):=d5.kn X G (fun _ _ _ _ _ _ us hl=>by obtain ⟨a0,a1,rfl⟩:=k7 hl; rfl) fun _ F=>m5 (k:=0) T     F;have g6:Kn l.prog w K mg base 1 "_law_take" ["_law_pen_here", "_law_many"] (spF K [1,0] 0 ax):=d6.kn X G (fun _ _ _ _ _ _ us hl=>by obtain ⟨a0,a1,rfl⟩:=k7 hl; rfl) fun _ F=>lX (k:=0) T     F;have g7:Kn l.prog w K mg base 2 "_law_machine" ["_law_pen_here", "_law_most", "_law_signs"] (spF K [1,0,0] 0 bg):=d7.kn X G (fun _ _ _ _ _ _ us hl=>by obtain ⟨a0,a1,a2,rfl⟩:=Dy hl; rfl) fun _ F=>jF (k:=1) T  (g6.mono (by decide))   F;have g8:Kn l.prog w K mg base 1 "_law_whole" ["_law_thing"] (spF K [0] 3 bJ):=d8.kn X G (fun _ _ _ _ _ _ us hl=>by obtain ⟨a0,rfl⟩:=fY hl; rfl) fun _ F=>kY (k:=0) T     F;have g9:Kn l.prog w K mg base 1 "_law_copy" ["_law_machine_here"] (spF K [0] 2 bo):=d9.kn X G (fun _ _ _ _ _ _ us hl=>by obtain ⟨a0,rfl⟩:=fY hl; rfl) fun _ F=>lY (k:=0) T     F;have g10:Kn l.prog w K mg base 1 "_law_closed" ["_law_pairs", "_law_some"] (spF K [0,0] 1 aR):=d10.kn X G (fun _ _ _ _ _ _ us hl=>by obtain ⟨a0,a1,rfl⟩:=k7 hl; rfl) fun _ F=>ku (k:=0) T     F;have g11:Kn l.prog w K mg base 4 "_law_right" ["_law_machine_here"] (spF K [0] 3 aQ):=d11.kn X G (fun _ _ _ _ _ _ us hl=>by obtain ⟨a0,rfl⟩:=fY hl; rfl) fun _ F=>kZ (k:=3) T  (g9.mono (by decide)) (g10.mono (by decide)) (g2.mono (by decide)) (g4.mono (by decide)) (g8.mono (by decide))   F;have g12:Kn l.prog w K mg base 4 "_law_chain_right" ["_law_pen_here"] (spF K [1] 3 a5):=d12.kn X G (fun _ _ _ _ _ _ us hl=>by obtain ⟨a0,rfl⟩:=fY hl; rfl) fun _ F=>gM (k:=3) T  (g6.mono (by decide)) (g2.mono (by decide)) (g4.mono (by decide)) (g9.mono (by decide))   F;exact (CL (k:=4) T  (g5.mono (by decide)) (g7.mono (by decide)) (g6.mono (by decide)) (g11.mono (by decide)) (g12.mono (by decide))   FL).imp fun vs H Q E h=>Bh p0 h
def walk {l:PySem.W.OpenLaw} {q:Program} {loose:List Str} {XP:(Str->Option Value)->Heap->Prop} {YP:World->Heap->Prop} {d:DefRec} {K:Params->PySem.W.Frag} (hn:l.most=some 63) (hdf:d.params.defaults=[]) (hq:PyProof.Rows.importsNone q=true)
  (hY:∀ (w:World) (h:Heap),YP w h->(K w.params).In h)
  (F:∀ (w:World) (mg:Str->Option Value) (fa:Addr) (h:Heap),(K w.params).In h->h.Ns mainGlobals mg->mg d.name=some (.ref fa) ->
   ∃ fd:FuncData,(∀ (s:Shared) (u:Value),BindsTo s fd ⟨[u],[]⟩ [("_law_script",u)])/\∀ base:Heap,(K w.params).In base->base.Ns mainGlobals mg->FnOk l.prog w (K w.params) mg base CX0 5 fa fd ["_law_script"] (i4 (K w.params))) :
  PySem.W.WalkO q loose XP YP l.row.toRowW d [] (fun f vs=>PySem.call f vs) :=
 L2.walk_of (n:=63) (k:=5) (x:="_law_script") (CX:=fun _=>CX0) (sp:=fun w=>i4 (K w.params)) hn (by decide) hdf ⟨rfl,by decide,by decide,rfl⟩ hq hY F (fun _ _ a ns hl hO hS=>⟨a,ns,rfl,hS,hO,hl,fun _=>rfl⟩) fun _ _ _ _ _ z=>z
end W12
open PySem PySem.W PyProof.Rows
set_option maxRecDepth 100000 in
set_option maxHeartbeats 0 in
theorem PySem.Challenge.cw_wordrules_k12_met_and_alive_holds : PySem.Challenge.rw_wordrules_k12_met_and_alive.Holds := by
 w_on; o_law; k_head; (case hw=>w_witness2)
 k_fill
 refine W12.walk (l:=PySem.Challenge.rw_wordrules_k12_met_and_alive) rfl rfl rfl (fun w h Y=>PySem.W.kIn_of Y) ?F
 case F =>
  intro w mg fa h KX G hmg;refine' W12.all_mk KX G hmg (.mk' ?_ ?_ ?_ ?_) (.mk' ?_ ?_ ?_ ?_) (.mk' ?_ ?_ ?_ ?_) (.mk' ?_ ?_ ?_ ?_) (.mk' ?_ ?_ ?_ ?_) (.mk' ?_ ?_ ?_ ?_) (.mk' ?_ ?_ ?_ ?_) (.mk' ?_ ?_ ?_ ?_) (.mk' ?_ ?_ ?_ ?_) (.mk' ?_ ?_ ?_ ?_) (.mk' ?_ ?_ ?_ ?_) (.mk' ?_ ?_ ?_ ?_) (.mk' ?_ ?_ ?_ ?_) (.mk' ?_ ?_ ?_ ?_) ?_ ?_ ?_ ?_ ?_ ?_ ?_ ?_ ?_ ?_ ?_
  all_goals (try k_is)
