import PyProof.Rows.All
import Wide.All
import OpenK.AllK
import Wide.FinOn
import Lean
import PyProof.EqAt
import PyProof.EqKinds
import PyProof.TupleCall
import PyProof.NeKinds
import PyProof.ConsumeWalk
import PyProof.ZipIter
import PyProof.EnumMake
import PyProof.EnumFor
import PyProof.StrWalks
import PyProof.ListStr
import PyProof.SliceStr2
import PyProof.StrBlockI
import PyProof.Rows.StrWeight2
import PyProof.Rows.ZipGen
import PyProof.Rows.StrIndexOr
import PyProof.Draws
import PyProof.RaisesStr
import PyProof.Rows.StrCountLaw
import PyProof.SumWalk
import PyProof.ReprRoads
import PyProof.ReprLen
import PyProof.CallFns
import PyProof.SumAny
import PyProof.SumAnyB
import PySem.Challenge.RW_wordrules_k22_what_is_a_table
set_option Elab.async false
set_option linter.all false
set_option maxRecDepth 100000
namespace L2
open PySem PySem.Spec PyProof.Rows
abbrev Key:=Sum Int Str
def il:Key→Value→Bool
 | .inl k,v=>Value.isInt k v
 | .inr x,v=>Value.isStrOf x v
def EJ (w:World):Key→Int
 | .inl k=>hashInt k
 | .inr x=>hashStr w x
theorem bq:∀ {k:Key} {v:Value},il k v=true→(∃ i t,k=Sum.inl i∧v=Value.int i t)∨(∃ x t,k=Sum.inr x∧v=Value.str x t)
 | .inl i,v,h=>by
  obtain ⟨t,e⟩:=Value.isInt_shape (k:=i) (v:=v) h
  exact .inl ⟨i,t,rfl,e⟩
 | .inr x,v,h=>by
  obtain ⟨t,e⟩:=Value.isStrOf_shape (x:=x) (v:=v) h
  exact .inr ⟨x,t,rfl,e⟩
theorem pz (i:Int) (t:Tok):il (.inl i) (.int i t)=true:=by simp [il,Value.isInt]
theorem pr (x:Str) (t:Tok):il (.inr x) (.str x t)=true:=by simp [il,Value.isStrOf]
theorem pq (a b:Int):decide ((Sum.inl a:Key)=Sum.inl b)=(a == b):=by
 by_cases e:a=b
 ·subst e; simp
 ·have h:¬ (Sum.inl a:Key)=Sum.inl b:=fun q=>e (Sum.inl.inj q)
  rw [decide_eq_false h]
  exact (beq_eq_false_iff_ne.mpr e).symm
theorem pj (a b:Str):decide ((Sum.inr a:Key)=Sum.inr b)=decide (a=b):=by
 by_cases e:a=b
 ·subst e; simp
 ·have h:¬ (Sum.inr a:Key)=Sum.inr b:=fun q=>e (Sum.inr.inj q)
  rw [decide_eq_false h,decide_eq_false e]
theorem pp (a:Int) (b:Str):decide ((Sum.inl a:Key)=Sum.inr b)=false:=decide_eq_false (fun q=>nomatch q)
theorem pk (a:Str) (b:Int):decide ((Sum.inr a:Key)=Sum.inl b)=false:=decide_eq_false (fun q=>nomatch q)
def bn (prog:Program) (w:World):PySem.KeyKind prog w Key where
 is:=il
 hash:=EJ w
 inj:=fun v a b ha hb=>by
  rcases bq ha with ⟨i,t,rfl,rfl⟩ | ⟨x,t,rfl,rfl⟩
  ·rcases bq hb with ⟨j,u,rfl,e⟩ | ⟨y,u,rfl,e⟩
   ·injection e with e1 _; rw [e1]
   ·exact nomatch e
  ·rcases bq hb with ⟨j,u,rfl,e⟩ | ⟨y,u,rfl,e⟩
   ·exact nomatch e
   ·injection e with e1 _; rw [e1]
 byValue:=fun k v h=>by
  rcases bq h with ⟨i,t,rfl,rfl⟩ | ⟨x,t,rfl,rfl⟩ <;> rfl
 pyHash:=fun hv h=>by
  rcases bq hv with ⟨i,t,rfl,rfl⟩ | ⟨x,t,rfl,rfl⟩
  ·exact wpAny_pyHash_int h
  ·exact wpAny_pyHash_str h
 eqBool:=fun hu hv h=>by
  rcases bq hu with ⟨i,t,rfl,rfl⟩ | ⟨x,t,rfl,rfl⟩
  ·rcases bq hv with ⟨j,u,rfl,rfl⟩ | ⟨y,u,rfl,rfl⟩
   ·rw [pq] at h; exact wpAny_eqBool_int h
   ·rw [pp] at h; exact SeqAt.EqAt.int_str i t y u _ _ _ _ h
  ·rcases bq hv with ⟨j,u,rfl,rfl⟩ | ⟨y,u,rfl,rfl⟩
   ·rw [pk] at h; exact SeqAt.EqAt.str_int x t j u _ _ _ _ h
   ·rw [pj] at h; exact wpAny_eqBool_str h
 «strs»:=fun k x t v h=>by
  rcases bq h with ⟨i,u,rfl,e⟩ | ⟨y,u,rfl,e⟩
  ·exact nomatch e
  ·injection e with e1 _
   subst e1
   cases v <;> rfl
theorem m9 (prog:Program) (w:World) (i:Int) (t:Tok):(bn prog w).is (.inl i) (.int i t)=true:=pz i t
theorem m8 (prog:Program) (w:World) (x:Str) (t:Tok):(bn prog w).is (.inr x) (.str x t)=true:=pr x t
end L2
namespace L2
open PySem PySem.Spec PyProof.Rows
inductive V where
 | non | bl (b:Bool) | int (i:Int) | str (x:Str) | byt (b:Array UInt8) | flt (b:UInt64) | ref (a:Addr) | ty (n:String)
 deriving DecidableEq
def RelV:V→Value→Prop
 | .non,u=>u=Value.none
 | .bl b,u=>u=Value.bool b
 | .int i,u=>∃ t,u=Value.int i t
 | .str x,u=>∃ t,u=Value.str x t
 | .byt b,u=>∃ t,u=Value.bytes b t
 | .flt b,u=>∃ t,u=Value.float b t
 | .ref a,u=>u=Value.ref a
 | .ty n,u=>u=Value.type n
abbrev Vals:List V→List Value→Prop:=Paired RelV
theorem Vals.length {xs:List V} {us:List Value} (r:Vals xs us):xs.length=us.length:=Paired.length r
theorem Vals.get:∀ {xs:List V} {us:List Value} {i:Nat} {x:V},Vals xs us→xs[i]?=some x→∃ u,us[i]?=some u∧RelV x u
 | _,_,_,_,.nil,e=>by simp at e
 | _,_,0,_,.cons r _,e=>by simp at e; subst e; exact ⟨_,rfl,r⟩
 | _,_,i+1,x,.cons _ t,e=>by
  obtain ⟨u,h1,h2⟩:=Vals.get (i:=i) (x:=x) t (by simpa using e)
  exact ⟨u,by simpa using h1,h2⟩
theorem Vals.set {x:V} {u:Value} (r:RelV x u):∀ {xs:List V} {us:List Value} (i:Nat),Vals xs us→Vals (xs.set i x) (us.set i u)
 | _,_,_,.nil=>.nil
 | _,_,0,.cons _ t=>.cons r t
 | _,_,i+1,.cons q t=>.cons q (Vals.set r i t)
theorem Vals.append:∀ {xs ys:List V} {us ws:List Value},Vals xs us→Vals ys ws→Vals (xs++ys) (us++ws)
 | _,_,_,_,.nil,s=>s
 | _,_,_,_,.cons r t,s=>.cons r (Vals.append t s)
theorem Vals.take:∀ {xs:List V} {us:List Value} (n:Nat),Vals xs us→Vals (xs.take n) (us.take n)
 | _,_,0,_=>.nil
 | _,_,_+1,.nil=>.nil
 | _,_,n+1,.cons r t=>.cons r (Vals.take n t)
theorem Vals.drop:∀ {xs:List V} {us:List Value} (n:Nat),Vals xs us→Vals (xs.drop n) (us.drop n)
 | _,_,0,r=>r
 | _,_,_+1,.nil=>.nil
 | _,_,n+1,.cons _ t=>Vals.drop n t
def RelO:Option V→Option Value→Prop
 | some v,some u=>RelV v u
 | none,none=>True
 | _,_=>False
def KV {κ:Type}:List (κ × V)→List (κ × Value)→Prop:=Paired fun (p:κ × V) (q:κ × Value)=>p.1=q.1∧RelV p.2 q.2
def kV:Key→V
 | .inl i=>.int i
 | .inr x=>.str x
inductive HO where
 | lst (xs:List V)
 | tup (xs:List V)
 | dK (kvs:List (Key × V)) | dT (kvs:List (List Key × V))
 | set (S:Int→Bool) (n:Nat)
 | ins (C dx:Addr) (fs:List (Str × V))
 | own (x:Addr)
 | xd (fs:List (Str × V))
 | met (f x:Addr)
 | rng (lo hi:Int)
 | frz (o:Obj) (u:HO)
 | tbl (ps:Array Value)
 | ext (φ:Heap→Prop)
abbrev Hp:=Addr→Option HO
def upd (H:Hp) (a:Addr) (o:HO):Hp:=fun b=>if b=a then some o else H b
theorem aL {H:Hp} {a:Addr} {o:HO}:upd H a o a=some o:=by unfold upd; rw [if_pos rfl]
theorem aM {H:Hp} {a b:Addr} {o:HO} (h:b≠a):upd H a o b=H b:=by unfold upd; rw [if_neg h]
theorem D3 {H:Hp} {a b:Addr} {o u:HO} (h:H a=some o) (h':H b=some u) (d:o≠u):a≠b:=by
 intro e; subst e; rw [h] at h'; exact d (Option.some.inj h')
theorem bH {H:Hp} {a b:Addr} {o:HO} (h:H a=some o) (h':H b=none):a≠b:=by
 intro e; subst e; rw [h] at h'; cases h'
def IsTupN (h:Heap) (a:Addr) (its:Array Value):Prop:=∃ o,h.get? a=some o∧o.cls=.type "tuple"∧∃ n,o.data=.seq its n∧o.dict=none
theorem IsTupN.tup {h:Heap} {a:Addr} {its:Array Value} (x:IsTupN h a its):IsTup h a its:=by
 obtain ⟨o,h1,h2,n,h3,_⟩:=x
 exact ⟨o,h1,h2,n,h3⟩
theorem IsTupN.lt {h:Heap} {a:Addr} {its:Array Value} (x:IsTupN h a its):a < h.objs.size:=Heap.lt_size x.choose_spec.1
theorem IsTupN.new (h:Heap) (its:Array Value):IsTupN (h.push { cls:=.type "tuple",data:=.seq its }) h.objs.size its:=⟨_,Heap.get?_push_size _ rfl,rfl,_,rfl,rfl⟩
section
variable (P:Program) (w:World)
def ObjOk (H:Hp) (h:Heap) (a:Addr):HO→Prop
 | .lst xs=>xs.length≤sizeLine∧∃ (its:List Value) (n:Nat),Vals xs its∧h.get? a=some { cls:=.type "list",data:=.seq its.toArray n }
 | .tup xs=>xs.length≤sizeLine∧∃ its:List Value,Vals xs its∧IsTupN h a its.toArray
 | .dK kvs=>kvs.length≤sizeLine∧(a == sysModules)=false∧∃ vs,KV kvs vs∧h.DictOf (bn P w) a vs
 | .dT kvs=>kvs.length≤sizeLine∧(a == sysModules)=false∧∃ xs:List (List Key × Addr × Value),
   Paired (fun (p:List Key × V) (q:List Key × Addr × Value)=>p.1=q.1∧H q.2.1=some (.tup (p.1.map kV))∧RelV p.2 q.2.2) kvs xs ∧
   ∃ o es ep,h.get? a=some o∧o.ExactDict∧o.data=.dict es ep∧es.toList=xs.map (entryOfKey (tupleKind (bn P w)))∧(xs.map (·.1)).Nodup
 | .set S n=>h.SetOf (intKind P w) a S n
 | .ins C dx fs=>H dx=some (.own a)∧fs.length≤1000∧dx≠a∧h.get? a=some (PySem.W.instObj C dx) ∧
   ∃ mA,h.Ns1 dx mA∧(∀ f,RelO (fs.lookup f) (mA f))∧PySem.Within mA (fs.map (·.1))
 | .own _=>∃ o,h.get? a=some o
 | .xd fs=>∃ mA,h.Ns1 a mA∧∀ f,RelO (fs.lookup f) (mA f)
 | .rng lo hi=>∃ t u v,h.get? a=some { cls:=.type "range",data:=.fields #[.int lo t,.int hi u,.int 1 v] }
 | .frz o u=>h.get? a=some o∧ObjOk H h a u
 | .tbl ps=>h.get? a=some { cls:=.none,data:=.fields ps }
 | .met f x=>h.get? a=some (PySem.W.methodObj (.ref f) (.ref x))
 | .ext φ=>φ h∧(∃ o,h.get? a=some o)∧∀ h1 h2:Heap,φ h1→(∀ o,h1.get? a=some o→h2.get? a=some o)→φ h2
def HOk (H:Hp) (h:Heap):Prop:=∀ a o,H a=some o→ObjOk P w H h a o
end
section
variable {P:Program} {w:World} {H H':Hp} {h h':Heap} {a:Addr} {o:HO}
theorem ObjOk.lt (x:ObjOk P w H h a o):a < h.objs.size:=by
 cases o with
 | lst xs=>obtain ⟨_,_,_,_,e⟩:=x; exact Heap.lt_size e
 | tup xs=>obtain ⟨_,_,_,p⟩:=x; exact p.lt
 | dK kvs=>obtain ⟨_,_,_,_,o,_,_,e,_⟩:=x; exact Heap.lt_size e
 | dT kvs=>obtain ⟨_,_,_,_,o,_,_,e,_⟩:=x; exact Heap.lt_size e
 | set S n=>obtain ⟨o,_,_,_,e,_⟩:=x; exact Heap.lt_size e
 | ins C dx fs=>obtain ⟨_,_,_,e,_⟩:=x; exact Heap.lt_size e
 | own y=>obtain ⟨_,e⟩:=x; exact Heap.lt_size e
 | xd fs=>obtain ⟨_,⟨_,_,_,e,_⟩,_⟩:=x; exact Heap.lt_size e
 | rng lo hi=>obtain ⟨_,_,_,e⟩:=x; exact Heap.lt_size e
 | frz ob u=>obtain ⟨e,_⟩:=x; exact Heap.lt_size e
 | tbl ps=>exact Heap.lt_size (show h.get? a=some _ from x)
 | met f y=>exact Heap.lt_size (show h.get? a=some _ from x)
 | ext φ=>obtain ⟨_,⟨_,e⟩,_⟩:=x; exact Heap.lt_size e
theorem Paired.mapP {α β:Type} {F G:α→β→Prop}:∀ {l₁:List α} {l₂:List β},Paired F l₁ l₂→(∀ a b,F a b→G a b)→Paired G l₁ l₂
 | _,_,.nil,_=>.nil
 | _,_,.cons r t,f=>.cons (f _ _ r) (Paired.mapP t f)
theorem ObjOk.stay (x:ObjOk P w H h a o) (k:∀ b u,(b=a∨H b=some (.own a))→h.get? b=some u→h'.get? b=some u)
  (ho:∀ b,H b=some (.own a)→H' b=some (.own a)) (ht:∀ b xs,H b=some (.tup xs)→H' b=some (.tup xs)):ObjOk P w H' h' a o:=by
 induction o with
 | lst xs=>obtain ⟨z,its,n,r,e⟩:=x; exact ⟨z,its,n,r,k _ _ (.inl rfl) e⟩
 | tup xs=>obtain ⟨z,its,r,ob,e,c⟩:=x; exact ⟨z,its,r,ob,k _ _ (.inl rfl) e,c⟩
 | dK kvs=>obtain ⟨z,y,vs,r,ob,es,ep,e,c⟩:=x; exact ⟨z,y,vs,r,ob,es,ep,k _ _ (.inl rfl) e,c⟩
 | dT kvs =>
  obtain ⟨z,y,xs,r,ob,es,ep,e,c⟩:=x
  exact ⟨z,y,xs,Paired.mapP r fun p q z=>⟨z.1,ht _ _ z.2.1,z.2.2⟩,ob,es,ep,k _ _ (.inl rfl) e,c⟩
 | set S n=>obtain ⟨ob,es,ep,t,e,c⟩:=x; exact ⟨ob,es,ep,t,k _ _ (.inl rfl) e,c⟩
 | ins C dx fs =>
  obtain ⟨d,z,ne,e,mA,⟨od,es,ep,e2,c⟩,r⟩:=x
  exact ⟨ho _ d,z,ne,k _ _ (.inl rfl) e,mA,⟨od,es,ep,k _ _ (.inr d) e2,c⟩,r⟩
 | own y=>obtain ⟨ob,e⟩:=x; exact ⟨ob,k _ _ (.inl rfl) e⟩
 | xd fs=>obtain ⟨mA,⟨od,es,ep,e,c⟩,r⟩:=x; exact ⟨mA,⟨od,es,ep,k _ _ (.inl rfl) e,c⟩,r⟩
 | rng lo hi=>obtain ⟨t,u,v,e⟩:=x; exact ⟨t,u,v,k _ _ (.inl rfl) e⟩
 | frz ob u ih=>obtain ⟨e,q⟩:=x; exact ⟨k _ _ (.inl rfl) e,ih q⟩
 | tbl ps =>
  have e:h.get? a=some { cls:=.none,data:=.fields ps }:=x
  show h'.get? a=some { cls:=.none,data:=.fields ps }
  exact k a _ (.inl rfl) e
 | met f y =>
  have e:h.get? a=some (PySem.W.methodObj (.ref f) (.ref y)):=x
  show h'.get? a=some (PySem.W.methodObj (.ref f) (.ref y))
  exact k a _ (.inl rfl) e
 | ext φ=>obtain ⟨p,⟨o,e⟩,st⟩:=x; exact ⟨st _ _ p fun o q=>k _ _ (.inl rfl) q,⟨o,k _ _ (.inl rfl) e⟩,st⟩
theorem HOk.lt (x:HOk P w H h) (e:H a=some o):a < h.objs.size:=(x a o e).lt
theorem HOk.fresh (x:HOk P w H h) (e:h.objs.size≤a):H a=none:=by
 cases q:H a with
 | none=>rfl
 | some u=>exact absurd (Nat.lt_of_lt_of_le (x.lt q) e) (Nat.lt_irrefl _)
theorem HOk.kept (x:HOk P w H h) (k:∀ b u,h.get? b=some u→h'.get? b=some u):HOk P w H h':=fun a o e =>
 (x a o e).stay (fun b u _ q=>k b u q) (fun _ q=>q) fun _ _ q=>q
theorem HOk.laid (x:HOk P w H h) (k:∀ b u,h.get? b=some u→h'.get? b=some u) (hp:h.objs.size≤a) (new:ObjOk P w (upd H a o) h' a o):HOk P w (upd H a o) h':=fun b u e=>by
 have hn:=x.fresh hp
 by_cases hb:b=a
 ·subst hb; rw [aL] at e; cases e; exact new
 ·rw [aM hb] at e
  exact (x b u e).stay (fun c v _ q=>k c v q) (fun c q=>by rw [aM (bH q hn)]; exact q) fun c xs q=>by rw [aM (bH q hn)]; exact q
end
def Rd (H:Hp) (a:Addr) (u:HO):Prop:=H a=some u∨∃ o,H a=some (.frz o u)
theorem Rd.ok {P:Program} {w:World} {H:Hp} {h:Heap} {a:Addr} {u:HO} (r:Rd H a u) (x:HOk P w H h):ObjOk P w H h a u:=by
 rcases r with r | ⟨o,r⟩
 ·exact x a u r
 ·obtain ⟨_,q⟩:=x a _ r
  exact q
def Mut:Option HO→Prop
 | some (.lst _)=>True
 | some (.dK _)=>True
 | some (.dT _)=>True
 | some (.set _ _)=>True
 | some (.ins _ _ _)=>True
 | some (.ext _)=>True
 | _=>False
section
variable {P:Program} {w:World} {H:Hp} {h h':Heap} {x e:Addr} {o':HO}
theorem HOk.write (ok:HOk P w H h) (mu:Mut (H x)) (he:e=x∨H e=some (.own x)) (k:∀ b u,b≠e→h.get? b=some u→h'.get? b=some u) (heo:∃ u,h'.get? e=some u)
  (new:ObjOk P w (upd H x o') h' x o'):HOk P w (upd H x o') h':=fun b u q=>by
 have nown:∀ c y,H c=some (.own y)→c≠x:=fun c y r z=>by subst z; rw [r] at mu; exact mu
 have ntup:∀ c xs,H c=some (.tup xs)→c≠x:=fun c xs r z=>by subst z; rw [r] at mu; exact mu
 by_cases hb:b=x
 ·subst hb; rw [aL] at q; cases q; exact new
 ·rw [aM hb] at q
  by_cases hbe:b=e
  ·have q':H b=some (.own x):=by
    rcases he with z | z
    ·exact absurd (hbe.trans z) hb
    ·rw [hbe]; exact z
   rw [q] at q'; cases q'
   obtain ⟨v,hv⟩:=heo
   exact ⟨v,by rw [hbe]; exact hv⟩
  ·refine (ok b u q).stay (fun c v hc r=>k c v ?_ r) (fun c r=>by rw [aM (nown c b r)]; exact r) fun c xs r=>by rw [aM (ntup c xs r)]; exact r
   rcases hc with rfl | hc
   ·exact hbe
   ·rintro rfl
    rcases he with z | z
    ·exact nown c b hc z
    ·rw [hc] at z; cases z; exact hb rfl
end
structure Un (fs ex:List Addr) (H H':Hp) (h h':Heap):Prop where
 keep:∀ b o,h.get? b=some o→H b=none→b ∉ fs→b ∉ ex→h'.get? b=some o
 slot:∀ b o,h.get? b=some o→H b=none→b∈fs→b ∉ ex→∃ sl,h'.get? b=some { o with slots:=sl }
 free:∀ b o,h.get? b=some o→H b=none→b ∉ ex→H' b=none
 there:∀ b o,h.get? b=some o→b ∉ ex→∃ o',h'.get? b=some o'
 tups:∀ b xs,H b=some (.tup xs)→H' b=some (.tup xs)
 frzs:∀ b o u,H b=some (.frz o u)→H' b=some (.frz o u)
 tbls:∀ b ps,H b=some (.tbl ps)→∃ more,H' b=some (.tbl (ps++more))
section
variable {fs fs' ex ex':List Addr} {H H1 H2:Hp} {h h1 h2 h':Heap} {a x e:Addr} {o:HO}
theorem Un.any (u:Un fs ex H H1 h h1) {b:Addr} {ob:Obj} (q:h.get? b=some ob) (n:H b=none) (hx:b ∉ ex):∃ sl,h1.get? b=some { ob with slots:=sl }:=by
 by_cases hb:b∈fs
 ·exact u.slot b ob q n hb hx
 ·exact ⟨ob.slots,u.keep b ob q n hb hx⟩
theorem Un.trans (a:Un fs ex H H1 h h1) (b:Un fs ex H1 H2 h1 h2):Un fs ex H H2 h h2 where
 keep:=fun c ob q n hc hx=>b.keep c ob (a.keep c ob q n hc hx) (a.free c ob q n hx) hc hx
 slot:=fun c ob q n hc hx=>by
  obtain ⟨sl,e1⟩:=a.slot c ob q n hc hx
  obtain ⟨sl',e2⟩:=b.slot c _ e1 (a.free c ob q n hx) hc hx
  exact ⟨sl',e2⟩
 free:=fun c ob q n hx=>by
  obtain ⟨o',e1⟩:=a.there c ob q hx
  exact b.free c o' e1 (a.free c ob q n hx) hx
 there:=fun c ob q hx=>by
  obtain ⟨o',e1⟩:=a.there c ob q hx
  exact b.there c o' e1 hx
 tups:=fun c xs q=>b.tups c xs (a.tups c xs q)
 frzs:=fun c ob xs q=>b.frzs c ob xs (a.frzs c ob xs q)
 tbls:=fun c ps q=>by
  obtain ⟨m1,e1⟩:=a.tbls c ps q
  obtain ⟨m2,e2⟩:=b.tbls c _ e1
  exact ⟨m1++m2,by rw [e2,Array.append_assoc]⟩
theorem Un.kept (k:∀ b u,h.get? b=some u→h'.get? b=some u):Un fs ex H H h h' :=
 ⟨fun b ob q _ _ _=>k b ob q,fun b ob q _ _ _=>⟨ob.slots,k b ob q⟩,fun _ _ _ n _=>n,fun b ob q _=>⟨ob,k b ob q⟩,fun _ _ q=>q,fun _ _ _ q=>q,fun _ ps q=>⟨#[],by rw [q]; simp⟩⟩
theorem Un.refl:Un fs ex H H h h:=Un.kept fun _ _ q=>q
theorem Un.laid (k:∀ b u,h.get? b=some u→h'.get? b=some u) (hp:h.objs.size≤a) (hn:H a=none):Un fs ex H (upd H a o) h h' where
 keep:=fun b u q _ _ _=>k b u q
 slot:=fun b u q _ _ _=>⟨u.slots,k b u q⟩
 free:=fun b u q n _=>by rw [aM (Nat.ne_of_lt (Nat.lt_of_lt_of_le (Heap.lt_size q) hp))]; exact n
 there:=fun b u q _=>⟨u,k b u q⟩
 tups:=fun b xs q=>by rw [aM (bH q hn)]; exact q
 frzs:=fun b u xs q=>by rw [aM (bH q hn)]; exact q
 tbls:=fun b ps q=>⟨#[],by rw [aM (bH q hn),q]; simp⟩
theorem Un.write (mu:Mut (H x)) (he:e=x∨H e=some (.own x)) (k:∀ b u,b≠e→h.get? b=some u→h'.get? b=some u) (heo:∃ u,h'.get? e=some u):Un fs ex H (upd H x o) h h':=by
 have hx:∀ b,H b=none→b≠x:=fun b n z=>by subst z; rw [n] at mu; exact mu
 have hb:∀ b,H b=none→b≠e:=fun b n z=>by
  subst z
  rcases he with r | r
  ·exact hx b n r
  ·rw [n] at r; cases r
 have hm:∀ b u,H b=some u→¬ Mut (some u)→b≠x:=fun b u q nm z=>by subst z; rw [q] at mu; exact nm mu
 refine ⟨fun b u q n _ _=>k b u (hb b n) q,fun b u q n _ _=>⟨u.slots,k b u (hb b n) q⟩,fun b u q n _=>by rw [aM (hx b n)]; exact n,fun b u q _=>?_,
  fun b xs q=>by rw [aM (hm b _ q fun z=>z)]; exact q,fun b u xs q=>by rw [aM (hm b _ q fun z=>z)]; exact q,fun b ps q=>⟨#[],by rw [aM (hm b _ q fun z=>z),q]; simp⟩⟩
 by_cases hbe:b=e
 ·subst hbe; exact heo
 ·exact ⟨u,k b u hbe q⟩
end
def trk (h:Heap) (H:Hp):List Addr:=(List.range h.objs.size).filter fun a=>(H a).isSome
def im (h:Heap) (H:Hp):Heap:=PySem.W.hideAll h (trk h H)
theorem pE (h:Heap) (H:Hp):(im h H).objs.size=h.objs.size:=PySem.W.hideAll_size _ _
theorem qQ {h:Heap} {H:Hp} {b:Addr} {o:Obj} (e:h.get? b=some o) (n:H b=none):(im h H).get? b=some o :=
 PySem.W.hideAll_get _ e fun hm=>by
  have q:(H b).isSome=true:=(List.mem_filter.mp hm).2
  rw [n] at q; simp at q
theorem yd {h:Heap} {H:Hp} {b:Addr} {o:Obj} (e:(im h H).get? b=some o):h.get? b=some o∧H b=none:=by
 have e':h.get? b=some o:=PySem.W.of_hideAll (trk h H) e
 refine ⟨e',?_⟩
 cases q:H b with
 | none=>rfl
 | some x =>
  have hm:b∈trk h H:=List.mem_filter.mpr ⟨List.mem_range.mpr (Heap.lt_size e'),by simp [q]⟩
  have z:(im h H).get? b=none:=PySem.W.hideAll_none (trk h H) hm
  rw [z] at e; cases e
def zF (g h:Heap) (L:Addr):List (Addr × Obj):=(List.range h.objs.size).filterMap fun a=>if a=L∨(g.get? a).isSome=true then none else (h.get? a).map fun o=>(a,o)
def rest (g h:Heap) (L d:Addr):List (Addr × Obj):=(zF g h L).filter fun p=>decide (p.1≠d)
end L2
namespace L2
open PySem PySem.Spec PyProof.Rows
structure Mod (K:PySem.W.Frag) (mg:Str→Option Value) (base:Heap):Prop where
 kin:K.In base
 glob:base.Ns mainGlobals mg
 blt:∃ mb,base.Ns builtinsNs mb∧∀ x:Str,x≠"__name__"→mb x=bootBuiltins x
 nolimit:base.NoLimit
 mods:∃ mm,base.Ns sysModules mm
structure Cx where
 prog:Program
 w:World
 K:PySem.W.Frag
 mg:Str→Option Value
 base:Heap
 A:Around
 N:List Str
 s₀:Shared
 H₀:Hp
 env:Env
 outer:List Env
 stack:List Env
 ex:List Addr
 fn:Str→Bool
 calm:Bool
 pn:List (Addr × Obj)
 xe:Value→Shared→Prop
def frs (l:List Env):List Addr:=l.filterMap (·.frame)
abbrev Cx.fs (X:Cx):List Addr:=frs X.outer
def Vis (sc:Scope) (x:Str):Prop:=sc.names.lookup x=some .local∨sc.names.lookup x=some .cell∨sc.names.lookup x=some .free
def Loc (sc:Scope) (x:Str):Prop:=sc.names.lookup x=some .local∨sc.names.lookup x=some .cell
def EZ (env:Env) (h:Heap) (m:Str→Option Value) (x:Str) (u:Value):Prop :=
 (env.kindOf x=some .local∧m x=some u)∨((env.kindOf x=some .cell∨env.kindOf x=some .free)∧∃ c,env.cells.lookup x=some c∧h.IsCell c (some u))
structure Cx.Ok (X:Cx):Prop where
 mod:Mod X.K X.mg X.base
 kind:X.env.scope.kind=.function
 glob:X.env.globals=mainGlobals
 blt:X.env.builtins=builtinsNs
 above:X.s₀.heap.objs.size≤X.env.locals
 inj:∀ x y c,X.env.cells.lookup x=some c→X.env.cells.lookup y=some c→x=y
 has:∀ x,(X.env.kindOf x=some .cell∨X.env.kindOf x=some .free)→∃ c,X.env.cells.lookup x=some c
 cab:∀ x c,X.fn x=true→X.env.cells.lookup x=some c→X.s₀.heap.objs.size≤c
 hd:X.calm=true→X.A.handled=none
 frames:X.A.frames=some X.stack
 stk:X.stack=X.outer∨(X.stack=X.env :: X.outer∧X.env.frame=some X.env.locals)
 exf:∀ b∈X.ex,b≠X.env.locals∧∀ x c,X.env.cells.lookup x=some c→c≠b
 bs:∀ b o,X.base.get? b=some o→X.s₀.heap.get? b=some o∧X.H₀ b=none
 bsz:X.base.objs.size≤X.s₀.heap.objs.size
 noex:∀ b o,X.base.get? b=some o→b ∉ X.ex
 exfs:∀ b∈X.ex,b ∉ X.fs
 funs:X.s₀.heap.FunFrames X.base X.outer
 frf:∀ b∈X.fs,X.H₀ b=none
structure Inv (X:Cx) (pins:List (Addr × Obj)) (σ:List (Option V)) (H:Hp) (s:Shared):Prop where
 ok:X.Ok
 os:s.os=X.s₀.os
 bare:AllBare s.gens
 base:Un X.fs X.ex X.H₀ H X.s₀.heap s.heap
 loc:∃ m,s.heap.Ns X.env.locals m∧∀ (i:Nat) (x:Str) (v:V),X.N[i]?=some x→σ[i]?=some (some v)→Vis X.env.scope x→∃ u,RelV v u∧EZ X.env s.heap m x u
 cell:∀ x c,X.env.cells.lookup x=some c→∃ v,s.heap.IsCell c v
 free:H X.env.locals=none
 freeC:∀ x c,X.env.cells.lookup x=some c→H c=none
 pin:∀ p∈X.pn++pins,s.heap.get? p.1=some p.2∧H p.1=none∧p.1≠X.env.locals∧p.1 ∉ X.fs∧∀ v,p.2.data≠.cell v
 hok:HOk X.prog X.w H s.heap
 len:σ.length=X.N.length
section
variable {X:Cx} {pins:List (Addr × Obj)} {σ:List (Option V)} {H H':Hp} {s:Shared} {h':Heap}
theorem Cx.Ok.nofr (ok:X.Ok) {b:Addr} {o:Obj} (e:X.base.get? b=some o):b ∉ X.fs:=fun hb=>by
 have:=(ok.funs.mem hb).1
 rw [e] at this; cases this
theorem Inv.bs (I:Inv X pins σ H s):∀ b o,X.base.get? b=some o→s.heap.get? b=some o∧H b=none:=fun b o e =>
 ⟨I.base.keep b o (I.ok.bs b o e).1 (I.ok.bs b o e).2 (I.ok.nofr e) (I.ok.noex b o e),I.base.free b o (I.ok.bs b o e).1 (I.ok.bs b o e).2 (I.ok.noex b o e)⟩
theorem Inv.bk (I:Inv X pins σ H s):∀ b o,X.base.get? b=some o→s.heap.get? b=some o:=fun b o e=>(I.bs b o e).1
theorem Inv.mod (I:Inv X pins σ H s):Mod X.K X.mg X.base:=I.ok.mod
theorem Inv.kIn (I:Inv X pins σ H s):X.K.In s.heap:=I.ok.mod.kin.keeps I.bk
theorem Inv.lt (I:Inv X pins σ H s):X.env.locals < s.heap.objs.size:=let ⟨_,hn,_⟩:=I.loc; hn.lt
theorem Inv.sz (I:Inv X pins σ H s):X.s₀.heap.objs.size≤s.heap.objs.size:=Nat.le_trans I.ok.above (Nat.le_of_lt I.lt)
theorem Inv.nofs (I:Inv X pins σ H s) {a:Addr} (h:s.heap.objs.size≤a):a ∉ X.fs:=fun hb=>by
 obtain ⟨_,o,ho,_⟩:=I.ok.funs.mem hb
 exact absurd (Nat.lt_of_lt_of_le (Heap.lt_size ho) (Nat.le_trans I.sz h)) (Nat.lt_irrefl _)
theorem Inv.cne (I:Inv X pins σ H s):∀ x c,X.env.cells.lookup x=some c→c≠X.env.locals:=fun x c e z=>by
 obtain ⟨v,o,ho,hd⟩:=I.cell x c e
 obtain ⟨m,⟨o',es,ep,ho',hd',_⟩,_⟩:=I.loc
 rw [z,ho'] at ho; cases ho; rw [hd'] at hd; cases hd
theorem Inv.funs (I:Inv X pins σ H s):s.heap.FunFrames X.base X.outer:=by
 have all:∀ (l:List Env),(∀ b∈frs l,b∈X.fs)→X.s₀.heap.FunFrames X.base l→s.heap.FunFrames X.base l:=by
  intro l
  induction l with
  | nil=>intro _ _; trivial
  | cons env r ih =>
   intro hs hl
   obtain ⟨hk,⟨L,o,hf,hn,ho,hd⟩,hr⟩:=hl
   have hL:L∈X.fs:=hs L (by unfold frs; rw [List.filterMap_cons,hf]; exact List.mem_cons_self)
   obtain ⟨sl,e⟩:=I.base.slot L o ho (I.ok.frf L hL) hL fun z=>I.ok.exfs L z hL
   exact ⟨hk,⟨L,_,hf,hn,e,hd⟩,ih (fun b hb=>hs b (by unfold frs; rw [List.filterMap_cons,hf]; exact List.mem_cons_of_mem _ hb)) hr⟩
 exact all X.outer (fun _ hb=>hb) I.ok.funs
theorem Inv.stack (I:Inv X pins σ H s):s.heap.FunFrames X.base X.stack:=by
 rcases I.ok.stk with e | ⟨e,hf⟩
 ·rw [e]; exact I.funs
 ·rw [e]
  obtain ⟨m,hn,_⟩:=I.loc
  refine .cons (by rw [I.ok.kind]; decide) hf hn ?_ I.funs
  exact Heap.get?_none_of_le (Nat.le_trans I.ok.bsz I.ok.above)
theorem Inv.stkSub (I:Inv X pins σ H s):∀ b∈frs X.stack,b∈X.env.locals :: X.fs:=fun b hb=>by
 rcases I.ok.stk with e | ⟨e,hf⟩
 ·rw [e] at hb; exact List.mem_cons_of_mem _ hb
 ·rw [e] at hb
  unfold frs at hb
  rw [List.filterMap_cons,hf] at hb
  exact hb
theorem Inv.stkFree (I:Inv X pins σ H s):∀ b∈frs X.stack,H b=none:=fun b hb=>by
 rcases List.mem_cons.mp (I.stkSub b hb) with e | hb
 ·rw [e]; exact I.free
 ·obtain ⟨_,o,ho,_⟩:=I.ok.funs.mem hb
  exact I.base.free b o ho (I.ok.frf b hb) fun z=>I.ok.exfs b z hb
theorem Inv.step {g':Array GenState} {t':Nat} {d':Drawn} {ch:List Addr} (I:Inv X pins σ H s)
  (hch:∀ b∈ch,(b∈X.ex∨X.s₀.heap.objs.size≤b)∧b≠X.env.locals∧(∀ x c,X.env.cells.lookup x=some c→c≠b)∧∀ p∈X.pn++pins,p.1≠b)
  (keep:∀ b o,b≠X.env.locals→b ∉ X.fs→b ∉ ch→s.heap.get? b=some o→H b=none→h'.get? b=some o)
  (slot:∀ b o,b≠X.env.locals→b∈X.fs→b ∉ ch→s.heap.get? b=some o→H b=none→∃ sl,h'.get? b=some { o with slots:=sl }) (free:∀ b o,b ∉ ch→s.heap.get? b=some o→H b=none→H' b=none)
  (there:∀ b o,b ∉ ch→s.heap.get? b=some o→∃ o',h'.get? b=some o')
  (tups:∀ b xs,H b=some (.tup xs)→H' b=some (.tup xs)) (frzs:∀ b o u,H b=some (.frz o u)→H' b=some (.frz o u)) (tbls:∀ b ps,H b=some (.tbl ps)→∃ more,H' b=some (.tbl (ps++more)))
  (ns:∀ m,s.heap.Ns X.env.locals m→h'.Ns X.env.locals m) (hok:HOk X.prog X.w H' h') (hg:AllBare g') :
  Inv X pins σ H' { s with heap:=h',gens:=g',drawn:=d',toks:=t' }:=by
 have neL:∀ b o,X.s₀.heap.get? b=some o→b≠X.env.locals:=fun b o e=>Nat.ne_of_lt (Nat.lt_of_lt_of_le (Heap.lt_size e) I.ok.above)
 have neC:∀ b o,X.s₀.heap.get? b=some o→b ∉ X.ex→b ∉ ch:=fun b o e hx hb=>by
  rcases (hch b hb).1 with z | z
  ·exact hx z
  ·exact absurd (Nat.lt_of_lt_of_le (Heap.lt_size e) z) (Nat.lt_irrefl _)
 have cellK:∀ x c,X.env.cells.lookup x=some c→∀ v,s.heap.IsCell c v→h'.IsCell c v:=fun x c e v ⟨o,ho,hd⟩=>by
  have nch:c ∉ ch:=fun z=>(hch c z).2.2.1 x c e rfl
  by_cases hc:c∈X.fs
  ·obtain ⟨sl,q⟩:=slot c o (I.cne x c e) hc nch ho (I.freeC x c e)
   exact ⟨_,q,hd⟩
  ·exact ⟨o,keep c o (I.cne x c e) hc nch ho (I.freeC x c e),hd⟩
 refine ⟨I.ok,I.os,hg,⟨fun b o e n hb hx=>?_,fun b o e n hb hx=>?_,fun b o e n hx=>?_,fun b o e hx=>?_,fun b xs e=>tups b xs (I.base.tups b xs e),fun b o xs e=>frzs b o xs (I.base.frzs b o xs e),fun b ps e=>?_⟩,?_,fun x c e=>?_,?_,fun x c e=>?_,fun p hp=>?_,hok,I.len⟩
 ·exact keep b o (neL b o e) hb (neC b o e hx) (I.base.keep b o e n hb hx) (I.base.free b o e n hx)
 ·obtain ⟨sl,e1⟩:=I.base.slot b o e n hb hx
  obtain ⟨sl',e2⟩:=slot b _ (neL b o e) hb (neC b o e hx) e1 (I.base.free b o e n hx)
  exact ⟨sl',e2⟩
 ·obtain ⟨o',e1⟩:=I.base.there b o e hx
  exact free b o' (neC b o e hx) e1 (I.base.free b o e n hx)
 ·obtain ⟨o',e1⟩:=I.base.there b o e hx
  exact there b o' (neC b o e hx) e1
 ·obtain ⟨m1,e1⟩:=I.base.tbls b ps e
  obtain ⟨m2,e2⟩:=tbls b _ e1
  exact ⟨m1++m2,by rw [e2,Array.append_assoc]⟩
 ·obtain ⟨m,hn,hl⟩:=I.loc
  refine ⟨m,ns m hn,fun i x v e1 e2 e3=>?_⟩
  obtain ⟨u,r,l⟩:=hl i x v e1 e2 e3
  refine ⟨u,r,?_⟩
  rcases l with l | ⟨k,c,e,z⟩
  ·exact .inl l
  ·exact .inr ⟨k,c,e,cellK x c e _ z⟩
 ·obtain ⟨v,z⟩:=I.cell x c e
  exact ⟨v,cellK x c e v z⟩
 ·obtain ⟨m,⟨o,_,_,ho,_⟩,_⟩:=I.loc
  exact free _ o (fun z=>(hch _ z).2.1 rfl) ho I.free
 ·obtain ⟨v,o,ho,hd⟩:=I.cell x c e
  exact free c o (fun z=>(hch c z).2.2.1 x c e rfl) ho (I.freeC x c e)
 ·obtain ⟨e,n,ne,nf,d⟩:=I.pin p hp
  have nch:p.1 ∉ ch:=fun z=>(hch p.1 z).2.2.2 p hp rfl
  exact ⟨keep p.1 p.2 ne nf nch e n,free p.1 p.2 nch e n,ne,nf,d⟩
theorem Inv.un {t':Nat} (I:Inv X pins σ H s) (u:Un X.fs [] H H' s.heap h') (hok:HOk X.prog X.w H' h'):Inv X pins σ H' { s with heap:=h',toks:=t' }:=by
 obtain ⟨m,⟨o,es,ep,ho,r⟩,_⟩:=id I.loc
 obtain ⟨sl,hL⟩:=u.any ho I.free (by simp)
 exact I.step (g':=s.gens) (d':=s.drawn) (ch:=[]) (fun _ z=>nomatch z) (fun b o _ hb _ e n=>u.keep b o e n hb (by simp)) (fun b o _ hb _ e n=>u.slot b o e n hb (by simp)) (fun b o _ e n=>u.free b o e n (by simp)) (fun b o _ e=>u.there b o e (by simp)) u.tups u.frzs u.tbls (fun m' hm=>by
  obtain ⟨o',es',ep',ho',r'⟩:=hm
  rw [ho] at ho'; cases ho'
  exact ⟨_,es',ep',hL,r'⟩) hok I.bare
theorem Inv.call {g':Array GenState} {t':Nat} {d':Drawn} {ch:List Addr} (I:Inv X pins σ H s) (u:Un (frs X.stack) ch H H' s.heap h') (hok:HOk X.prog X.w H' h') (hg:AllBare g')
  (hch:∀ b∈ch,(b∈X.ex∨X.s₀.heap.objs.size≤b)∧b≠X.env.locals∧(∀ x c,X.env.cells.lookup x=some c→c≠b)∧∀ p∈X.pn++pins,p.1≠b) :
  Inv X pins σ H' { s with heap:=h',gens:=g',drawn:=d',toks:=t' }:=by
 obtain ⟨m,⟨o,es,ep,ho,r⟩,_⟩:=id I.loc
 obtain ⟨sl,hL⟩:=u.any ho I.free fun z=>(hch _ z).2.1 rfl
 exact I.step (ch:=ch) hch (fun b o hL hb hc e n=>u.keep b o e n (fun z=>(List.mem_cons.mp (I.stkSub b z)).elim hL hb) hc) (fun b o _ _ hc e n=>u.any e n hc) (fun b o hc e n=>u.free b o e n hc) (fun b o hc e=>u.there b o e hc) u.tups u.frzs u.tbls (fun m' hm=>by
  obtain ⟨o',es',ep',ho',r'⟩:=hm
  rw [ho] at ho'; cases ho'
  exact ⟨_,es',ep',hL,r'⟩) hok hg
theorem Inv.turned {t':Nat} {it:Addr} (I:Inv X pins σ H s) (k:∀ b o,b≠it→s.heap.get? b=some o→h'.get? b=some o) (hn:H it=none) (hL:it≠X.env.locals)
  (h1:it∈X.ex∨X.s₀.heap.objs.size≤it) (h2:∀ x c,X.env.cells.lookup x=some c→c≠it) (h3:∀ p∈X.pn++pins,p.1≠it):Inv X pins σ H { s with heap:=h',toks:=t' }:=by
 have nit:∀ b u,H b=some u→b≠it:=fun b u e z=>by rw [z,hn] at e; cases e
 refine I.step (g':=s.gens) (d':=s.drawn) (ch:=[it]) (fun b hb=>?_) (fun b o _ _ hc e _=>k b o (fun z=>hc (by simp [z])) e) (fun b o _ _ hc e _=>⟨o.slots,k b o (fun z=>hc (by simp [z])) e⟩) (fun _ _ _ _ n=>n)
  (fun b o hc e=>⟨o,k b o (fun z=>hc (by simp [z])) e⟩) (fun _ _ e=>e) (fun _ _ _ e=>e) (fun b ps e=>⟨#[],by rw [e]; simp⟩) (fun m hm=>?_) (fun b u e=>?_) I.bare
 ·have e:b=it:=by simpa using hb
  subst e
  exact ⟨h1,hL,h2,h3⟩
 ·obtain ⟨o,es,ep,ho,r⟩:=hm
  exact ⟨o,es,ep,k _ o (Ne.symm hL) ho,r⟩
 ·refine (I.hok b u e).stay (fun c v hc q=>k c v ?_ q) (fun _ q=>q) fun _ _ q=>q
  rcases hc with z | z
  ·rw [z]; exact nit b u e
  ·exact nit c _ z
theorem Inv.tok (I:Inv X pins σ H s) (t:Nat):Inv X pins σ H { s with toks:=t }:=I.un (h':=s.heap) (t':=t) Un.refl I.hok
theorem Inv.kept {t':Nat} (I:Inv X pins σ H s) (k:∀ b u,s.heap.get? b=some u→h'.get? b=some u):Inv X pins σ H { s with heap:=h',toks:=t' }:=I.un (Un.kept k) (I.hok.kept k)
theorem Inv.laid {a:Addr} {o:HO} {t':Nat} (I:Inv X pins σ H s) (k:∀ b u,s.heap.get? b=some u→h'.get? b=some u) (hp:s.heap.objs.size≤a) (new:ObjOk X.prog X.w (upd H a o) h' a o) :
  Inv X pins σ (upd H a o) { s with heap:=h',toks:=t' }:=I.un (Un.laid k hp (I.hok.fresh hp)) (I.hok.laid k hp new)
theorem Inv.write {x e:Addr} {o:HO} {t':Nat} (I:Inv X pins σ H s) (mu:Mut (H x)) (he:e=x∨H e=some (.own x)) (k:∀ b u,b≠e→s.heap.get? b=some u→h'.get? b=some u) (heo:∃ u,h'.get? e=some u)
  (new:ObjOk X.prog X.w (upd H x o) h' x o):Inv X pins σ (upd H x o) { s with heap:=h',toks:=t' }:=I.un (Un.write mu he k heo) (I.hok.write mu he k heo new)
theorem Inv.pins_of {pins':List (Addr × Obj)} (I:Inv X pins σ H s) (h:∀ p∈pins',s.heap.get? p.1=some p.2∧H p.1=none∧p.1≠X.env.locals∧p.1 ∉ X.fs∧∀ v,p.2.data≠.cell v):Inv X pins' σ H s :=
 ⟨I.ok,I.os,I.bare,I.base,I.loc,I.cell,I.free,I.freeC,fun p hp=>(List.mem_append.mp hp).elim (fun z=>I.pin p (List.mem_append_left _ z)) (h p),I.hok,I.len⟩
theorem mf {N:List Str} (hN:N.Nodup) {i j:Nat} {x:Str} (a:N[i]?=some x) (b:N[j]?=some x):i=j:=by
 obtain ⟨h1,e1⟩:=List.getElem?_eq_some_iff.mp a
 obtain ⟨h2,e2⟩:=List.getElem?_eq_some_iff.mp b
 exact (List.getElem_inj hN).mp (e1.trans e2.symm)
theorem kM {M:Model} {A:Around} {E:Value→Shared→Prop} {i:Nat} {x:Str} {v:V} {u:Value} {Q:Unit→Shared→Prop} (I:Inv X pins σ H s) (hN:X.N.Nodup) (hi:X.N[i]?=some x) (hx:Loc X.env.scope x) (r:RelV v u)
  (h:∀ s',Inv X pins (σ.set i (some v)) H s'→(∃ a,Heap.SameBut a s.heap s'.heap∧(a=X.env.locals∨X.env.cells.lookup x=some a))→Q () s') (hf:X.fn x=true∨X.env.scope.names.lookup x=some .local:=by first | exact .inl rfl | exact .inr rfl | assumption):wpAny M A (storeName X.env x u) Q E s:=by
 obtain ⟨m,hn,hl⟩:=id I.loc
 have hcls:(X.env.scope.kind == .class || (X.env.scope.kind == .module && X.env.locals != X.env.globals))=false:=by rw [I.ok.kind]; rfl
 have hiσ:i < σ.length:=by rw [I.len]; exact (List.getElem?_eq_some_iff.mp hi).1
 have cne:=I.cne
 have tracked:∀ {a:Addr} {h':Heap},(∃ o,s.heap.get? a=some o∧H a=none)→Heap.SameBut a s.heap h'→HOk X.prog X.w H h':=fun {a h'} ha hs b ob e=>by
  obtain ⟨_,_,hfree⟩:=ha
  refine (I.hok b ob e).stay (fun c w' hc q=>(hs.2 c ?_).trans q) (fun _ q=>q) fun _ _ q=>q
  rintro rfl
  rcases hc with rfl | hc
  ·rw [hfree] at e; cases e
  ·rw [hfree] at hc; cases hc
 rcases hx with hk | hk
 ·refine wpAny_storeName_local hk hn (fun h' hn' hs=>?_) hcls
  obtain ⟨oL,_,_,hoL,_⟩:=id hn
  refine h _ ⟨I.ok,I.os,I.bare,⟨fun b o e n hb hx=>?_,fun b o e n hb hx=>?_,I.base.free,fun b o e hx=>?_,I.base.tups,I.base.frzs,I.base.tbls⟩,⟨_,hn',fun j y v' e1 e2 e3=>?_⟩,fun y c e=>?_,I.free,I.freeC,fun p hp=>?_,tracked ⟨oL,hoL,I.free⟩ hs,by simpa using I.len⟩ ⟨_,hs,.inl rfl⟩
  ·exact (hs.2 b (Nat.ne_of_lt (Nat.lt_of_lt_of_le (Heap.lt_size e) I.ok.above))).trans (I.base.keep b o e n hb hx)
  ·obtain ⟨sl,e1⟩:=I.base.slot b o e n hb hx
   exact ⟨sl,(hs.2 b (Nat.ne_of_lt (Nat.lt_of_lt_of_le (Heap.lt_size e) I.ok.above))).trans e1⟩
  ·obtain ⟨o',e1⟩:=I.base.there b o e hx
   exact ⟨o',(hs.2 b (Nat.ne_of_lt (Nat.lt_of_lt_of_le (Heap.lt_size e) I.ok.above))).trans e1⟩
  ·by_cases hj:j=i
   ·subst hj
    rw [hi] at e1; cases e1
    rw [List.getElem?_set_self hiσ] at e2
    cases e2
    exact ⟨u,r,.inl ⟨hk,by simp⟩⟩
   ·rw [List.getElem?_set_ne (Ne.symm hj)] at e2
    obtain ⟨u',r',q⟩:=hl j y v' e1 e2 e3
    refine ⟨u',r',?_⟩
    rcases q with ⟨k,e⟩ | ⟨k,c,e,z⟩
    ·refine .inl ⟨k,?_⟩
     have:y≠x:=fun e=>hj (mf hN e1 (e ▸ hi))
     simp [this,e]
    ·exact .inr ⟨k,c,e,z.sameBut hs (cne y c e)⟩
  ·obtain ⟨w',z⟩:=I.cell y c e
   exact ⟨w',z.sameBut hs (cne y c e)⟩
  ·obtain ⟨e,n,ne,nf,d⟩:=I.pin p hp
   exact ⟨(hs.2 p.1 ne).trans e,n,ne,nf,d⟩
 ·have hfn:X.fn x=true:=by
   rcases hf with z | z
   ·exact z
   ·rw [z] at hk; cases hk
  obtain ⟨c,hc⟩:=I.ok.has x (.inl hk)
  obtain ⟨w',z⟩:=I.cell x c hc
  refine wpAny_storeName_cell I.ok.kind hk hc z (fun h' hc' hs=>?_)
  obtain ⟨oc,hoc,hocd⟩:=id z
  refine h { s with heap:=h' } ⟨I.ok,I.os,I.bare,⟨fun b o e n hb hx=>?_,fun b o e n hb hx=>?_,I.base.free,fun b o e hx=>?_,I.base.tups,I.base.frzs,I.base.tbls⟩,⟨m,hn.sameBut hs (Ne.symm (cne x c hc)),fun j y v' e1 e2 e3=>?_⟩,fun y c' e=>?_,I.free,I.freeC,fun p hp=>?_,tracked ⟨oc,hoc,I.freeC x c hc⟩ hs,by simpa using I.len⟩ ⟨c,hs,.inr hc⟩
  ·exact (hs.2 b (Nat.ne_of_lt (Nat.lt_of_lt_of_le (Heap.lt_size e) (I.ok.cab x c hfn hc)))).trans (I.base.keep b o e n hb hx)
  ·obtain ⟨sl,e1⟩:=I.base.slot b o e n hb hx
   exact ⟨sl,(hs.2 b (Nat.ne_of_lt (Nat.lt_of_lt_of_le (Heap.lt_size e) (I.ok.cab x c hfn hc)))).trans e1⟩
  ·obtain ⟨o',e1⟩:=I.base.there b o e hx
   exact ⟨o',(hs.2 b (Nat.ne_of_lt (Nat.lt_of_lt_of_le (Heap.lt_size e) (I.ok.cab x c hfn hc)))).trans e1⟩
  ·by_cases hj:j=i
   ·subst hj
    rw [hi] at e1; cases e1
    rw [List.getElem?_set_self hiσ] at e2
    cases e2
    exact ⟨u,r,.inr ⟨.inl hk,c,hc,hc'⟩⟩
   ·rw [List.getElem?_set_ne (Ne.symm hj)] at e2
    obtain ⟨u',r',q⟩:=hl j y v' e1 e2 e3
    refine ⟨u',r',?_⟩
    rcases q with q | ⟨k,c',e,z'⟩
    ·exact .inl q
    ·refine .inr ⟨k,c',e,z'.sameBut hs ?_⟩
     rintro rfl
     exact hj (mf hN e1 (I.ok.inj _ _ _ e hc ▸ hi))
  ·by_cases hcc:c'=c
   ·subst hcc; exact ⟨_,hc'⟩
   ·obtain ⟨w2,z2⟩:=I.cell y c' e
    exact ⟨w2,z2.sameBut hs hcc⟩
  ·obtain ⟨e,n,ne,nf,d⟩:=I.pin p hp
   refine ⟨(hs.2 p.1 ?_).trans e,n,ne,nf,d⟩
   intro q
   rw [q,hoc] at e
   have q':oc=p.2:=Option.some.inj e
   exact d w' (by rw [← q']; exact hocd)
theorem lN {M:Model} {A:Around} {E:Value→Shared→Prop} {i:Nat} {x:Str} {v:V} {u:Value} {Q:Unit→Shared→Prop} (I:Inv X pins σ H s) (hN:X.N.Nodup) (hi:X.N[i]?=some x) (hx:Loc X.env.scope x) (r:RelV v u)
  (h:∀ s',Inv X pins (σ.set i (some v)) H s'→Q () s') (hf:X.fn x=true∨X.env.scope.names.lookup x=some .local:=by first | exact .inl rfl | exact .inr rfl | assumption):wpAny M A (storeName X.env x u) Q E s :=
 kM I hN hi hx r (fun s' I' _=>h s' I') hf
theorem Inv.call' {s':Shared} {ch:List Addr} (I:Inv X pins σ H s) (ho:s'.os=s.os) (u:Un (frs X.stack) ch H H' s.heap s'.heap) (hok:HOk X.prog X.w H' s'.heap) (hg:AllBare s'.gens)
  (hch:∀ b∈ch,(b∈X.ex∨X.s₀.heap.objs.size≤b)∧b≠X.env.locals∧(∀ x c,X.env.cells.lookup x=some c→c≠b)∧∀ p∈X.pn++pins,p.1≠b):Inv X pins σ H' s':=by
 obtain ⟨h',g',d',t',o'⟩:=s'
 have e:o'=s.os:=ho
 subst e
 exact I.call (g':=g') (t':=t') (d':=d') u hok hg hch
end
abbrev XK:=Value→Option Addr→Hp→Prop
abbrev St:=List (Option V)
abbrev VK:=V→Hp→Prop
abbrev TE:=St→Hp→VK→Prop
abbrev TT:=St→Hp→(Bool→Hp→Prop)→Prop
abbrev TA:=St→Hp→(List V→Hp→Prop)→Prop
structure Ends where
 nx:St→Hp→Prop
 rt:VK
 bk:St→Hp→Prop:=fun _ _=>False
 ct:St→Hp→Prop:=fun _ _=>False
abbrev TS:=Ends→St→Hp→Prop
def EP (X:Cx) (pins:List (Addr × Obj)) (σ:St) (Q:VK) (u:Value) (s':Shared):Prop:=∃ v H',Inv X pins σ H' s'∧RelV v u∧Q v H'
def TP (X:Cx) (pins:List (Addr × Obj)) (σ:St) (Q:Bool→Hp→Prop) (b:Bool) (s':Shared):Prop:=∃ H',Inv X pins σ H' s'∧Q b H'
def AP (X:Cx) (pins:List (Addr × Obj)) (σ:St) (Q:List V→Hp→Prop) (us:List Value) (s':Shared):Prop:=∃ vs H',Inv X pins σ H' s'∧Vals vs us∧Q vs H'
def SP (X:Cx) (pins:List (Addr × Obj)) (D:Ends) (f:Flow) (s':Shared):Prop :=
 match f with
 | .next=>∃ σ' H',Inv X pins σ' H' s'∧D.nx σ' H'
 | .brk=>∃ σ' H',Inv X pins σ' H' s'∧D.bk σ' H'
 | .cont=>∃ σ' H',Inv X pins σ' H' s'∧D.ct σ' H'
 | .ret u=>∃ v σ' H',Inv X pins σ' H' s'∧RelV v u∧D.rt v H'
def PE (X:Cx) (e:Expr) (t:TE):Prop :=
 ∀ (pins:List (Addr × Obj)) (s:Shared) (σ:St) (H:Hp) (Q:VK),Inv X pins σ H s→t σ H Q→wpAny (model X.prog X.w) X.A (eval e X.env) (EP X pins σ Q) X.xe s
def PT (X:Cx) (e:Expr) (t:TT):Prop :=
 ∀ (pins:List (Addr × Obj)) (s:Shared) (σ:St) (H:Hp) (Q:Bool→Hp→Prop),Inv X pins σ H s→t σ H Q→wpAny (model X.prog X.w) X.A (isTrue e X.env (eval e X.env)) (TP X pins σ Q) X.xe s
def PW (X:Cx) (e:Expr) (t:TT):Prop :=
 ∀ (whole:Sem Value) (pins:List (Addr × Obj)) (s:Shared) (σ:St) (H:Hp) (Q:Bool→Hp→Prop),Inv X pins σ H s→t σ H Q→wpAny (model X.prog X.w) X.A (isTrue e X.env whole) (TP X pins σ Q) X.xe s
theorem PW.pt {X:Cx} {e:Expr} {t:TT} (h:PW X e t):PT X e t:=h _
def PA (X:Cx) (es:List Expr) (t:TA):Prop :=
 ∀ (pos:Pos) (pins:List (Addr × Obj)) (s:Shared) (σ:St) (H:Hp) (Q:List V→Hp→Prop),Inv X pins σ H s→t σ H Q→wpAny (model X.prog X.w) X.A (spliced (backTo pos (starEach es X.env))) (AP X pins σ Q) X.xe s
def PS (X:Cx) (st:Stmt) (t:TS):Prop :=
 ∀ (pins:List (Addr × Obj)) (s:Shared) (σ:St) (H:Hp) (D:Ends),Inv X pins σ H s→t D σ H→wpAny (model X.prog X.w) X.A (exec st X.env) (SP X pins D) X.xe s
def PSs (X:Cx) (st:List Stmt) (t:TS):Prop :=
 ∀ (pins:List (Addr × Obj)) (s:Shared) (σ:St) (H:Hp) (D:Ends),Inv X pins σ H s→t D σ H→wpAny (model X.prog X.w) X.A (execs st X.env) (SP X pins D) X.xe s
theorem thn {α:Type} {t:Sem α} {Q Q':α→Shared→Prop} {M:Model} {A:Around} {E:Value→Shared→Prop} {s:Shared} (h:wpAny M A t Q E s) (hQ:∀ a s,Q a s→Q' a s):wpAny M A t Q' E s:=wpAny_mono h hQ fun _ _ x=>x
end L2
namespace L2
open PySem PySem.Spec PyProof.Rows
section
variable {X:Cx}
def eE (i:Nat):TE:=fun σ H Q=>∃ v,σ[i]?=some (some v)∧Q v H
def tC (v:V):TE:=fun _ H Q=>Q v H
theorem cS {i:Nat} {x:Str} {pos:Pos} (hN:X.N[i]?=some x) (hv:Vis X.env.scope x) (hd:(x == ("__debug__" : Str))=false:=by decide) (hcd:(x == ("__classdict__" : Str))=false:=by decide):PE X (.Name x pos) (eE i):=by
 intro pins s σ H Q I h
 obtain ⟨v,e,h⟩:=h
 obtain ⟨m,hn,hl⟩:=I.loc
 obtain ⟨u,r,l⟩:=hl i x v hN e hv
 have fin:EP X pins σ Q u s:=⟨v,H,I,r,h⟩
 rcases l with ⟨hk,hm⟩ | ⟨hk,c,hc,hcell⟩
 ·exact wpAny_Name (wpAny_loadName_local I.ok.kind hk hn hm fin) hd
 ·rcases hk with hk | hk
  ·exact wpAny_Name (wpAny_loadName_cell I.ok.kind hk hc hcell fin) hd
  ·exact wpAny_Name (wpAny_loadName_free I.ok.kind hk hc hcell fin hcd) hd
theorem pe_int {i j pos}:PE X (.Constant (.int i) j pos) (tC (.int i)):=fun _ _ _ H _ I h=>wpAny_Constant_int ⟨.int i,H,I.tok _,⟨_,rfl⟩,h⟩
theorem pe_bl {b j pos}:PE X (.Constant (.bool b) j pos) (tC (.bl b)):=fun _ _ _ H _ I h=>Constant_bool ⟨.bl b,H,I,rfl,h⟩
theorem pe_non {j pos}:PE X (.Constant .none j pos) (tC .non):=fun _ _ _ H _ I h=>Constant_none ⟨.non,H,I,rfl,h⟩
theorem pe_str {x j pos}:PE X (.Constant (.str x) j pos) (tC (.str x)):=fun _ _ _ H _ I h=>Calls.Constant_str ⟨.str x,H,I.tok _,⟨_,rfl⟩,h⟩
def Gl (X:Cx) (x:Str):Prop:=X.env.kindOf x=some .globalImplicit
theorem yo {E:Value→Shared→Prop} {pins:List (Addr × Obj)} {s:Shared} {σ:St} {H:Hp} {x:Str} {u:Value} {pos:Pos} {Q:Value→Shared→Prop} (I:Inv X pins σ H s) (hg:Gl X x) (hm:X.mg x=some u) (h:Q u s)
  (hd:(x == ("__debug__" : Str))=false:=by decide):wpAny (model X.prog X.w) X.A (eval (.Name x pos) X.env) Q E s :=
 Calls.Name_function_global I.ok.kind hg (Calls.loadGlobal_global (by rw [I.ok.glob]; exact I.mod.glob.keeps I.bk) hm h) hd
theorem gM {E:Value→Shared→Prop} {pins:List (Addr × Obj)} {s:Shared} {σ:St} {H:Hp} {x:Str} {u:Value} {pos:Pos} {Q:Value→Shared→Prop} (I:Inv X pins σ H s) (hg:Gl X x) (hm:X.mg x=none) (hv:bootBuiltins x=some u) (h:Q u s)
  (hn:x≠"__name__":=by decide) (hd:(x == ("__debug__" : Str))=false:=by decide):wpAny (model X.prog X.w) X.A (eval (.Name x pos) X.env) Q E s:=by
 obtain ⟨mb,h1,h2⟩:=I.mod.blt
 exact Calls.Name_function_global I.ok.kind hg (Calls.loadGlobal_builtin (by rw [I.ok.glob]; exact I.mod.glob.keeps I.bk) hm (by rw [I.ok.blt]; exact h1.keeps I.bk) ((h2 x hn).trans hv) h) hd
theorem yc {x:Str} {v:V} {u:Value} {pos:Pos} (hg:Gl X x) (hm:X.mg x=none) (hv:bootBuiltins x=some u) (r:RelV v u) (hn:x≠"__name__":=by decide) (hd:(x == ("__debug__" : Str))=false:=by decide):PE X (.Name x pos) (tC v) :=
 fun _ _ _ H _ I h=>gM I hg hm hv ⟨v,H,I,r,h⟩ hn hd
variable {a b:Expr} {ta tb:TE} {pos:Pos}
def PC (X:Cx) (op:CmpOp) (a b:Expr) (t:TE):Prop :=
 ∀ (pins:List (Addr × Obj)) (s:Shared) (σ:St) (H:Hp) (Q:VK),Inv X pins σ H s→t σ H Q →
  wpAny (model X.prog X.w) X.A (eval a X.env) (fun v s₁=>wpAny (model X.prog X.w) X.A (eval b X.env) (fun u s₂=>wpAny (model X.prog X.w) X.A (compareOp op v u) (EP X pins σ Q) X.xe s₂) X.xe s₁) X.xe s
def tB (t:TE):TT:=fun σ H Q=>t σ H fun x H1=>∃ c,x=.bl c∧Q c H1
theorem BW {e:Expr} {t:TE} (h:PE X e t) (he:∀ whole,isTrue e X.env whole=(do let v ← whole; standAt e.pos; holding [v] (truthy v)):=by intro _; rfl):PT X e (tB t):=by
 intro pins s σ H Q I hw
 refine isTrue_plain (thn (h pins s σ H _ I hw) fun v s1 ⟨x,H1,I1,r1,q1⟩=>?_) (he _)
 obtain ⟨d,rfl,q⟩:=q1
 cases r1
 exact wpAny_truthy_bool ⟨H1,I1,q⟩
variable {tA tB':TT} {rest:List Expr}
def BG (t u:TT):TT:=fun σ H Q=>t σ H fun c H1=>if c=true then u σ H1 Q else Q false H1
def tOr (t u:TT):TT:=fun σ H Q=>t σ H fun c H1=>if c=true then Q true H1 else u σ H1 Q
def BB (t:TT):TT:=fun σ H Q=>t σ H fun c H1=>Q (!c) H1
theorem xN (ha:PT X a tA):PW X (.BoolOp .And [a] pos) tA:=by
 intro wh pins s σ H Q I h
 refine isTrue_and (thn (ha pins s σ H Q I h) fun c s1 e=>?_)
 cases c with
 | true=>exact isTrue_and_nil e
 | false=>exact e
theorem BU (ha:PT X a tA):PW X (.BoolOp .Or [a] pos) tA:=by
 intro wh pins s σ H Q I h
 refine isTrue_or (thn (ha pins s σ H Q I h) fun c s1 e=>?_)
 cases c with
 | false=>exact isTrue_or_nil e
 | true=>exact e
theorem BV (ha:PT X a tA) (hb:PW X (.BoolOp .And (b :: rest) pos) tB'):PW X (.BoolOp .And (a :: b :: rest) pos) (BG tA tB'):=by
 intro wh pins s σ H Q I h
 refine isTrue_and (thn (ha pins s σ H _ I h) fun c s1 ⟨H1,I1,q1⟩=>?_)
 cases c with
 | true=>exact hb wh pins s1 σ H1 Q I1 q1
 | false=>exact ⟨H1,I1,q1⟩
theorem DS (ha:PT X a tA) (hb:PW X (.BoolOp .Or (b :: rest) pos) tB'):PW X (.BoolOp .Or (a :: b :: rest) pos) (tOr tA tB'):=by
 intro wh pins s σ H Q I h
 refine isTrue_or (thn (ha pins s σ H _ I h) fun c s1 ⟨H1,I1,q1⟩=>?_)
 cases c with
 | true=>exact ⟨H1,I1,q1⟩
 | false=>exact hb wh pins s1 σ H1 Q I1 q1
theorem BX (ha:PT X a tA):PT X (.UnaryOp .Not a pos) (BB tA):=by
 intro pins s σ H Q I h
 exact isTrue_not (ha pins s σ H (fun c H1=>Q (!c) H1) I h)
def xi (ta tb:TE):TE:=fun σ H Q=>ta σ H fun x H1=>∃ c,x=.bl c∧if c=true then tb σ H1 Q else Q (.bl false) H1
def BA (ta tb:TE):TE:=fun σ H Q=>ta σ H fun x H1=>∃ c,x=.bl c∧if c=true then Q (.bl true) H1 else tb σ H1 Q
def xa (ta:TE):TE:=fun σ H Q=>ta σ H fun x H1=>∃ c,x=.bl c∧Q (.bl (!c)) H1
theorem B3 {op} {t:TE} (h:PE X a t):PE X (.BoolOp op [a] pos) t:=fun pins s σ H Q I hw=>BoolOp_one (h pins s σ H Q I hw)
theorem B7 (ha:PE X a ta) (hb:PE X (.BoolOp .And (b :: rest) pos) tb):PE X (.BoolOp .And (a :: b :: rest) pos) (xi ta tb):=by
 intro pins s σ H Q I h
 refine BoolOp_and (thn (ha pins s σ H _ I h) fun v s1 ⟨x,H1,I1,r1,q1⟩=>?_)
 obtain ⟨c,rfl,q1⟩:=q1
 cases r1
 refine wpAny_truthy_bool ?_
 cases c with
 | true=>exact hb pins s1 σ H1 Q I1 q1
 | false=>exact ⟨.bl false,H1,I1,rfl,q1⟩
theorem DX (ha:PE X a ta) (hb:PE X (.BoolOp .Or (b :: rest) pos) tb):PE X (.BoolOp .Or (a :: b :: rest) pos) (BA ta tb):=by
 intro pins s σ H Q I h
 refine BoolOp_or (thn (ha pins s σ H _ I h) fun v s1 ⟨x,H1,I1,r1,q1⟩=>?_)
 obtain ⟨c,rfl,q1⟩:=q1
 cases r1
 refine wpAny_truthy_bool ?_
 cases c with
 | false=>exact hb pins s1 σ H1 Q I1 q1
 | true=>exact ⟨.bl true,H1,I1,rfl,q1⟩
theorem B4 (ha:PE X a ta):PE X (.UnaryOp .Not a pos) (xa ta):=by
 intro pins s σ H Q I h
 refine UnaryOp_ (thn (ha pins s σ H _ I h) fun v s1 ⟨x,H1,I1,r1,q1⟩=>?_)
 obtain ⟨c,rfl,q1⟩:=q1
 cases r1
 exact not_of (wpAny_truthy_bool ⟨.bl (!c),H1,I1,rfl,q1⟩)
def tIf (t:TT) (ta tb:TE):TE:=fun σ H Q=>t σ H fun c H1=>if c=true then ta σ H1 Q else tb σ H1 Q
theorem qC {c:Expr} (hc:PT X c tA) (ha:PE X a ta) (hb:PE X b tb):PE X (.IfExp c a b pos) (tIf tA ta tb):=by
 intro pins s σ H Q I h
 refine wpAny_IfExp (thn (hc pins s σ H _ I h) fun d s1 ⟨H1,I1,q1⟩=>?_)
 cases d with
 | true=>exact ha pins s1 σ H1 Q I1 q1
 | false=>exact hb pins s1 σ H1 Q I1 q1
end
end L2
namespace L2
open PySem PySem.Spec PyProof.Rows
def SqL (K:PySem.W.Frag) (H:Hp) (a:Addr) (xs:List V):Prop :=
 Rd H a (.lst xs) ∨
  ∃ (o:Obj) (its:Array Value) (n:Nat),K.lookup a=some o∧o.cls=.type "list"∧o.dict=none∧o.data=.seq its n∧its.size≤sizeLine∧Vals xs its.toList
def SqT (K:PySem.W.Frag) (H:Hp) (a:Addr) (xs:List V):Prop :=
 Rd H a (.tup xs) ∨
  ∃ (o:Obj) (its:Array Value) (n:Nat),K.lookup a=some o∧o.cls=.type "tuple"∧o.data=.seq its n∧its.size≤sizeLine∧Vals xs its.toList
def EW:Value→Option V
 | .none=>some .non
 | .bool b=>some (.bl b)
 | .int i _=>some (.int i)
 | .str x _=>some (.str x)
 | .bytes b _=>some (.byt b)
 | .float b _=>some (.flt b)
 | .ref a=>some (.ref a)
 | .type n=>some (.ty n)
 | _=>none
theorem RelV.abs {x:V} {u:Value} (r:RelV x u):EW u=some x:=by
 cases x with
 | non=>cases r; rfl
 | bl _=>cases r; rfl
 | int _=>obtain ⟨t,rfl⟩:=r; rfl
 | str _=>obtain ⟨t,rfl⟩:=r; rfl
 | byt _=>obtain ⟨t,rfl⟩:=r; rfl
 | flt _=>obtain ⟨t,rfl⟩:=r; rfl
 | ref _=>cases r; rfl
 | ty _=>cases r; rfl
theorem RelV.inj {x y:V} {u:Value} (r:RelV x u) (q:RelV y u):x=y:=Option.some.inj (r.abs.symm.trans q.abs)
theorem Vals.inj:∀ {xs ys:List V} {us:List Value},Vals xs us→Vals ys us→xs=ys
 | _,_,_,.nil,.nil=>rfl
 | _,_,_,.cons r t,.cons r' t'=>by rw [r.inj r',Vals.inj t t']
section
variable {X:Cx} {pins:List (Addr × Obj)} {σ:St} {H:Hp} {s:Shared} {a:Addr} {xs ys:List V}
theorem SqL.of {K:PySem.W.Frag} (h:H a=some (.lst xs)):SqL K H a xs:=.inl (.inl h)
theorem SqT.of {K:PySem.W.Frag} (h:H a=some (.tup xs)):SqT K H a xs:=.inl (.inl h)
theorem Inv.list (I:Inv X pins σ H s) (h:SqL X.K H a xs):∃ its:List Value,Vals xs its∧PlainL s.heap a its.toArray∧xs.length≤sizeLine:=by
 rcases h with h | ⟨o,its,n,hk,hc,hd,hs,hz,r⟩
 ·obtain ⟨z,its,n,r,e⟩:=h.ok I.hok
  exact ⟨its,r,⟨_,n,e,rfl,rfl,rfl⟩,z⟩
 ·refine ⟨its.toList,r,⟨o,n,I.kIn a o hk,hc,hd,by simpa using hs⟩,?_⟩
  have e:=r.length
  simp only [Array.length_toList] at e
  omega
theorem Inv.tuple (I:Inv X pins σ H s) (h:SqT X.K H a xs):∃ its:List Value,Vals xs its∧IsTup s.heap a its.toArray∧xs.length≤sizeLine:=by
 rcases h with h | ⟨o,its,n,hk,hc,hs,hz,r⟩
 ·obtain ⟨z,its,r,p⟩:=h.ok I.hok
  exact ⟨its,r,p.tup,z⟩
 ·refine ⟨its.toList,r,⟨o,I.kIn a o hk,hc,n,by simpa using hs⟩,?_⟩
  have e:=r.length
  simp only [Array.length_toList] at e
  omega
theorem Inv.list_inj (I:Inv X pins σ H s) (h:SqL X.K H a xs) (h':SqL X.K H a ys):xs=ys:=by
 obtain ⟨its,r,⟨o,n,e,_,_,d⟩,_⟩:=I.list h
 obtain ⟨its',r',⟨o',n',e',_,_,d'⟩,_⟩:=I.list h'
 rw [e] at e'; cases e'
 rw [d] at d'
 injection d' with d1 _
 have:its=its':=by simpa using congrArg Array.toList d1
 subst this
 exact r.inj r'
theorem Inv.tuple_inj (I:Inv X pins σ H s) (h:SqT X.K H a xs) (h':SqT X.K H a ys):xs=ys:=by
 obtain ⟨its,r,⟨o,e,_,n,d⟩,_⟩:=I.tuple h
 obtain ⟨its',r',⟨o',e',_,n',d'⟩,_⟩:=I.tuple h'
 rw [e] at e'; cases e'
 rw [d] at d'
 injection d' with d1 _
 have:its=its':=by simpa using congrArg Array.toList d1
 subst this
 exact r.inj r'
end
abbrev Cx.wish (X:Cx) (E:Value→Shared→Prop):Cx:={ X with xe:=E }
abbrev Cx.nox (X:Cx):Cx:=X.wish fun _ _=>False
theorem Cx.Ok.wish {X:Cx} (ok:X.Ok) (E:Value→Shared→Prop):(X.wish E).Ok :=
 ⟨ok.mod,ok.kind,ok.glob,ok.blt,ok.above,ok.inj,ok.has,ok.cab,ok.hd,ok.frames,ok.stk,ok.exf,ok.bs,ok.bsz,ok.noex,ok.exfs,ok.funs,ok.frf⟩
theorem Cx.Ok.unwish {X:Cx} {E:Value→Shared→Prop} (ok:(X.wish E).Ok):X.Ok :=
 ⟨ok.mod,ok.kind,ok.glob,ok.blt,ok.above,ok.inj,ok.has,ok.cab,ok.hd,ok.frames,ok.stk,ok.exf,ok.bs,ok.bsz,ok.noex,ok.exfs,ok.funs,ok.frf⟩
section
variable {X:Cx} {pins:List (Addr × Obj)} {σ:St} {H:Hp} {s:Shared} {E:Value→Shared→Prop}
theorem Inv.wish (I:Inv X pins σ H s) (E:Value→Shared→Prop):Inv (X.wish E) pins σ H s:=⟨I.ok.wish E,I.os,I.bare,I.base,I.loc,I.cell,I.free,I.freeC,I.pin,I.hok,I.len⟩
theorem Inv.unwish (I:Inv (X.wish E) pins σ H s):Inv X pins σ H s:=⟨I.ok.unwish,I.os,I.bare,I.base,I.loc,I.cell,I.free,I.freeC,I.pin,I.hok,I.len⟩
theorem SP.unwish {D:Ends} {f:Flow} {s':Shared} (h:SP (X.wish E) pins D f s'):SP X pins D f s':=by
 cases f with
 | next=>obtain ⟨σ',H',I,q⟩:=h; exact ⟨σ',H',I.unwish,q⟩
 | brk=>obtain ⟨σ',H',I,q⟩:=h; exact ⟨σ',H',I.unwish,q⟩
 | cont=>obtain ⟨σ',H',I,q⟩:=h; exact ⟨σ',H',I.unwish,q⟩
 | ret u=>obtain ⟨v,σ',H',I,r,q⟩:=h; exact ⟨v,σ',H',I.unwish,r,q⟩
theorem PSs.nox {st:List Stmt} {t:TS} (h:PSs X.nox st t):PSs X st t:=fun pins s σ H D I hw =>
 wpAny_mono (h pins s σ H D (I.wish _) hw) (fun _ _ q=>q.unwish) fun _ _ z=>False.elim z
end
section
variable {X:Cx} {st:Stmt} {rest:List Stmt} {t u:TS} {e:Expr} {te:TE} {pos:Pos}
def xb:TS:=fun D σ H=>D.nx σ H
def By (t u:TS):TS:=fun D σ H=>t { D with nx:=u D } σ H
theorem pss_nil:PSs X [] xb:=fun _ _ σ H _ I h=>wpAny_execs_nil ⟨σ,H,I,h⟩
theorem qy (h1:PS X st t) (h2:PSs X rest u):PSs X (st :: rest) (By t u):=by
 intro pins s σ H D I h
 refine wpAny_execs_cons (thn (h1 pins s σ H { D with nx:=u D } I h) fun f s1 q=>?_)
 cases f with
 | next =>
  obtain ⟨σ',H',I',q⟩:=q
  exact h2 pins s1 σ' H' D I' q
 | ret v=>exact q
 | brk=>exact q
 | cont=>exact q
theorem xQ (h1:PS X st t):PSs X [st] t:=by
 intro pins s σ H D I h
 refine wpAny_execs_cons (thn (h1 pins s σ H D I h) fun f s1 q=>?_)
 cases f with
 | next=>exact wpAny_execs_nil q
 | ret v=>exact q
 | brk=>exact q
 | cont=>exact q
theorem Inv.quiet {pins:List (Addr × Obj)} {σ:St} {H:Hp} {s:Shared} (I:Inv X pins σ H s):interactive X.env=false:=by simp [interactive,I.ok.kind]
def xc (te:TE):TS:=fun D σ H=>te σ H fun _ H1=>D.nx σ H1
theorem xR (he:PE X e te) (hs:swapsWith e none pos.line X.env=pure false:=by rfl):PS X (.Expr e pos) (xc te):=by
 intro pins s σ H D I h
 exact wpAny_Expr_any (thn (he pins s σ H _ I h) fun v s1 ⟨x,H1,I1,r1,q1⟩=>⟨σ,H1,I1,q1⟩) I.quiet hs
def Bz (te:TE):TS:=fun D σ H=>te σ H D.rt
theorem BZ (he:PE X e te):PS X (.Return (some e) pos) (Bz te):=by
 intro pins s σ H D I h
 exact wpAny_Return_some (thn (he pins s σ H _ I h) fun v s1 ⟨x,H1,I1,r1,q1⟩=>⟨x,σ,H1,I1,r1,q1⟩)
def BD (c:TT) (t u:TS):TS:=fun D σ H=>c σ H fun b H1=>if b=true then t D σ H1 else u D σ H1
theorem DU {c:Expr} {a b:List Stmt} {tc:TT} (hc:PT X c tc) (ha:PSs X a t) (hb:PSs X b u):PS X (.If c a b pos) (BD tc t u):=by
 intro pins s σ H D I h
 refine wpAny_If (thn (hc pins s σ H _ I h) fun d s1 ⟨H1,I1,q1⟩=>?_)
 cases d with
 | true=>exact ha pins s1 σ H1 D I1 q1
 | false=>exact hb pins s1 σ H1 D I1 q1
end
abbrev TG:=V→St→Hp→(St→Hp→Prop)→Prop
abbrev TGs:=List V→St→Hp→(St→Hp→Prop)→Prop
def PG (X:Cx) (target:Expr) (t:TG):Prop :=
 ∀ (pins:List (Addr × Obj)) (s:Shared) (σ:St) (H:Hp) (v:V) (u:Value) (Q:St→Hp→Prop),Inv X pins σ H s→RelV v u→t v σ H Q →
  wpAny (model X.prog X.w) X.A (assign target X.env u) (fun _ s'=>∃ σ' H',Inv X pins σ' H' s'∧Q σ' H') X.xe s
def PGs (X:Cx) (ts:List Expr) (t:TGs):Prop :=
 ∀ (pins:List (Addr × Obj)) (s:Shared) (σ:St) (H:Hp) (vs:List V) (us:List Value) (Q:St→Hp→Prop),Inv X pins σ H s→Vals vs us→t vs σ H Q →
  wpAny (model X.prog X.w) X.A (assignInOrder ((assignEach ts X.env).map (·.2)) us) (fun _ s'=>∃ σ' H',Inv X pins σ' H' s'∧Q σ' H') X.xe s
abbrev rH:=V→V→V→Hp→(Hp→Prop)→Prop
def DG (X:Cx) (t:rH):Prop :=
 ∀ (pins:List (Addr × Obj)) (s:Shared) (σ:St) (H:Hp) (o i v:V) (ov iv u:Value) (Q:Hp→Prop),Inv X pins σ H s→RelV o ov→RelV i iv→RelV v u→t o i v H Q →
  wpAny (model X.prog X.w) X.A (setItem ov iv u) (fun _ s'=>∃ H',Inv X pins σ H' s'∧Q H') X.xe s
section
variable {X:Cx} {pos:Pos}
def j5 (i:Nat):TG:=fun v σ H Q=>Q (σ.set i (some v)) H
theorem xW {i:Nat} {x:Str} (hN:X.N.Nodup) (hi:X.N[i]?=some x) (hx:Loc X.env.scope x) (hf:X.fn x=true∨X.env.scope.names.lookup x=some .local:=by first | exact .inl rfl | exact .inr rfl | assumption):PG X (.Name x pos) (j5 i):=by
 intro pins s σ H v u Q I r h
 exact wpAny_assign_Name (lN I hN hi hx r (fun s' I'=>⟨_,H,I',h⟩) hf)
def qS:TGs:=fun vs σ H Q=>vs=[]∧Q σ H
def oC (t:TG) (u:TGs):TGs:=fun vs σ H Q=>∃ v r,vs=v :: r∧t v σ H fun σ' H'=>u r σ' H' Q
theorem pgs_nil:PGs X [] qS:=by
 intro pins s σ H vs us Q I r h
 obtain ⟨e,h⟩:=h
 subst e
 cases r
 exact assignInOrder_nil ⟨σ,H,I,h⟩
theorem lX {e:Expr} {es:List Expr} {t:TG} {u:TGs} (h1:PG X e t) (h2:PGs X es u)
  (hs:(assignEach (e :: es) X.env).map (·.2)=assign e X.env :: (assignEach es X.env).map (·.2):=by rfl):PGs X (e :: es) (oC t u):=by
 intro pins s σ H vs us Q I r h
 obtain ⟨v,vr,e1,h⟩:=h
 subst e1
 cases r with
 | cons r rr =>
  rw [hs]
  refine assignInOrder_cons (thn (h1 pins s σ H _ _ _ I r h) fun _ s1 ⟨σ1,H1,I1,q1⟩=>?_)
  exact h2 pins s1 σ1 H1 _ _ Q I1 rr q1
def qR (K:PySem.W.Frag) (n:Nat) (t:TGs):TG:=fun v σ H Q=>∃ a xs,v=.ref a∧SqT K H a xs∧xs.length=n∧t xs σ H Q
theorem pb {es:List Expr} {k:Nat} {t:TGs} {n:Nat} (hc:X.calm=true) (h:PGs X es t)
  (hn:(assignEach es X.env).length=n:=by rfl) (hst:(assignEach es X.env).findIdx? (·.1)=none:=by rfl):PG X (.Tuple es k pos) (qR X.K n t):=by
 intro pins s σ H v u Q I r hw
 obtain ⟨a,xs,e1,hq,hl,hw⟩:=hw
 subst e1
 cases r
 obtain ⟨its,rv,ht,hz⟩:=I.tuple hq
 refine assign_Tuple_tuple (I.ok.hd hc) ht (by simp [hn,← hl,rv.length]) hst fun h' hx=>?_
 have I1:Inv X pins σ H { s with heap:=h' }:=I.kept (t':=s.toks) fun b o e=>hx b o (Nat.ne_of_lt (Heap.lt_size e)) e
 exact h pins _ σ H xs _ Q I1 (by simpa using rv) hw
def oB (to ti:TE) (t:rH):TG:=fun v σ H Q=>to σ H fun o H1=>ti σ H1 fun i H2=>t o i v H2 fun H3=>Q σ H3
theorem lY {o i:Expr} {to ti:TE} {t:rH} (ho:PE X o to) (hi:PE X i ti) (hs:DG X t)
  (ha:∀ v,assign (.Subscript o i pos) X.env v=(do
   let ov ← holding [v] (eval o X.env)
   let iv ← holding [v,ov] (eval i X.env)
   standAt pos
   holding [v,ov,iv] (setItem ov iv v)
   release [v,ov,iv] []):=by intro _; rfl):PG X (.Subscript o i pos) (oB to ti t):=by
 intro pins s σ H v u Q I r h
 rw [ha]
 refine wpAny_bind (wpAny_holding (thn (ho pins s σ H _ I h) fun ov s1 ⟨x,H1,I1,r1,q1⟩=>?_))
 refine wpAny_bind (wpAny_holding (thn (hi pins s1 σ H1 _ I1 q1) fun iv s2 ⟨y,H2,I2,r2,q2⟩=>?_))
 refine wpAny_bind (wpAny_standAt (wpAny_bind (wpAny_holding (thn (hs pins s2 σ H2 x y v ov iv u _ I2 r1 r2 r q2) fun _ s3 ⟨H3,I3,q3⟩=>?_))))
 exact wpAny_release ⟨σ,H3,I3,q3⟩
def jz (te:TE) (g:TG):TS:=fun D σ H=>te σ H fun x H1=>g x σ H1 D.nx
theorem lW {tg e:Expr} {te:TE} {g:TG} (he:PE X e te) (hg:PG X tg g) (hs:swapsWithSole [tg] e pos.line X.env=pure false:=by rfl) (hw:swappedStores [tg] e X.env=pure none:=by rfl)
  (h1:(assignEach [tg] X.env).map (·.2)=[assign tg X.env]:=by rfl):PS X (.Assign [tg] e pos) (jz te g):=by
 intro pins s σ H D I h
 refine wpAny_Assign_stores (thn (he pins s σ H _ I h) fun v s1 ⟨x,H1,I1,r1,q1⟩=>?_) hs hw
 rw [h1]
 exact thn (hg pins s1 σ H1 x v _ I1 r1 q1) fun _ s2 q=>q
theorem BY {i:Nat} {x:Str} {e:Expr} {te:TE} {pos':Pos} (hN:X.N.Nodup) (hi:X.N[i]?=some x) (hx:Loc X.env.scope x) (he:PE X e te) (hs:swapsWith e (some (.Name x pos')) pos.line X.env=pure false:=by rfl) (hf:X.fn x=true∨X.env.scope.names.lookup x=some .local:=by first | exact .inl rfl | exact .inr rfl | assumption) :
  PS X (.Assign [.Name x pos'] e pos) (jz te (j5 i)):=by
 intro pins s σ H D I h
 refine wpAny_Assign_Name (thn (he pins s σ H _ I h) fun v s1 ⟨y,H1,I1,r1,q1⟩=>?_) hs
 exact lN I1 hN hi hx r1 (fun s2 I2=>⟨_,H1,I2,q1⟩) hf
end
section
variable {X:Cx} {pos:Pos}
def oW (c:TT) (tb:TS):TS:=fun D σ H=>∃ W:Nat→St→Hp→Prop,(∃ m,W m σ H)∧∀ m σ H,W m σ H →
 c σ H fun b H1=>if b=true then ∃ N:St→Hp→Prop,(∀ σ' H',N σ' H'→∃ m',m' < m∧W m' σ' H')∧tb { D with nx:=N,ct:=N,bk:=D.nx } σ H1 else D.nx σ H1
theorem qz {c:Expr} {body:List Stmt} {tc:TT} {tb:TS} (hp:PassesOwn (model X.prog X.w) X.A X.env X.xe) (hc:PT X c tc) (hb:PSs X body tb):PS X (.While c body [] pos) (oW tc tb):=by
 intro pins s σ H D I h
 obtain ⟨W,⟨m0,w0⟩,turn⟩:=h
 refine wpAny_While (codeAny_whileLoop (fun n s'=>∃ σ' H',Inv X pins σ' H' s'∧W n σ' H') ?_ m0 ⟨σ,H,I,w0⟩)
 rintro n s1 ⟨σ1,H1,I1,w1⟩
 refine wpAny_passesOwn hp (thn (hc pins s1 σ1 H1 _ I1 (turn n σ1 H1 w1)) fun b s2 ⟨H2,I2,q2⟩=>?_)
 cases b with
 | true =>
  obtain ⟨N,hN,q2⟩:=q2
  rw [if_pos rfl]
  refine wpAny_passesOwn hp (thn (hb pins s2 σ1 H2 _ I2 q2) fun f s3 q3=>?_)
  cases f with
  | next =>
   obtain ⟨σ3,H3,I3,n3⟩:=q3
   obtain ⟨m',hm,w3⟩:=hN σ3 H3 n3
   exact ⟨m',hm,σ3,H3,I3,w3⟩
  | cont =>
   obtain ⟨σ3,H3,I3,n3⟩:=q3
   obtain ⟨m',hm,w3⟩:=hN σ3 H3 n3
   exact ⟨m',hm,σ3,H3,I3,w3⟩
  | brk=>exact q3
  | ret v=>exact q3
 | false =>
  rw [if_neg Bool.false_ne_true]
  exact wpAny_execs_nil ⟨σ1,H2,I2,q2⟩
end
structure It where
 go:Nat→Hp→Prop
 yld:Nat→Hp→V→Hp→Prop
 stop:Nat→Hp→Prop
def fy (X:Cx) (pins:List (Addr × Obj)) (H:Hp) (b:Addr):Prop :=
 H b=none∧b≠X.env.locals∧b ∉ X.fs∧(b∈X.ex∨X.s₀.heap.objs.size≤b)∧(∀ x c,X.env.cells.lookup x=some c→c≠b)∧∀ p∈X.pn++pins,p.1≠b
theorem Inv.fpOk {X:Cx} {pins:List (Addr × Obj)} {σ:St} {H H':Hp} {s:Shared} {b:Addr} (I:Inv X pins σ H s) (hb:s.heap.objs.size≤b) (hn:H' b=none):fy X pins H' b:=by
 refine ⟨hn,Nat.ne_of_gt (Nat.lt_of_lt_of_le I.lt hb),I.nofs hb,.inr (Nat.le_trans I.sz hb),fun x c e z=>?_,fun p hp z=>?_⟩
 ·obtain ⟨v,q⟩:=I.cell x c e
  exact absurd (Nat.lt_of_lt_of_le q.lt (by rw [z]; exact hb)) (Nat.lt_irrefl _)
 ·exact absurd (Nat.lt_of_lt_of_le (Heap.lt_size (I.pin p hp).1) (by rw [z]; exact hb)) (Nat.lt_irrefl _)
structure Turn (P:Program) (w:World) (K:PySem.W.Frag) (tg:Expr) (J:It) (fp:List Addr) (it:Addr) (tn:Nat→Heap→Prop):Prop where
 mem:it∈fp
 obj:∀ i h,tn i h→∀ b∈fp,∃ o,h.get? b=some o∧∀ v,o.data≠.cell v
 keep:∀ i h h',tn i h→(∀ b∈fp,∀ o,h.get? b=some o→h'.get? b=some o)→tn i h'
 item:∀ (X:Cx),X.prog=P→X.w=w→X.K=K→X.calm=true→∀ (i:Nat) (pins:List (Addr × Obj)) (s:Shared) (σ:St) (H:Hp) (E:Value→Shared→Prop),Inv X pins σ H s→(∀ b∈fp,fy X pins H b)→tn i s.heap→J.go i H →
  wpAny (model P w) X.A (pyNext (.ref it)) (fun r s1=>∃ u,r=some u ∧
   wpAny (model P w) X.A (letOwnedTupleGo tg (.ref it) u) (fun _ s2=>∃ x H',Inv X pins σ H' s2∧RelV x u∧J.yld i H x H'∧tn (i+1) s2.heap∧∀ b∈fp,H' b=none) E s1) E s
 done:∀ (X:Cx),X.prog=P→X.w=w→X.K=K→X.calm=true→∀ (i:Nat) (pins:List (Addr × Obj)) (s:Shared) (σ:St) (H:Hp) (E:Value→Shared→Prop),Inv X pins σ H s→(∀ b∈fp,fy X pins H b)→tn i s.heap→J.stop i H →
  wpAny (model P w) X.A (pyNext (.ref it)) (fun r s1=>r=none∧Inv X pins σ H s1) E s
 self:∀ (A:Around) (i:Nat) (s:Shared) (Q:Value→Shared→Prop) (E:Value→Shared→Prop),tn i s.heap→Q (.ref it) s→wpAny (model P w) A (pyIter (.ref it)) Q E s
abbrev TI:=St→Hp→(It→Hp→Prop)→Prop
def PIE (X:Cx) (pins:List (Addr × Obj)) (σ:St) (tg:Expr) (R:It→Hp→Prop) (itv:Value) (s2:Shared):Prop :=
 ∃ (it:Addr) (fp:List Addr) (tn:Nat→Heap→Prop) (J:It) (H':Hp),itv=.ref it∧Inv X pins σ H' s2∧Turn X.prog X.w X.K tg J fp it tn∧tn 0 s2.heap∧(∀ b∈fp,fy X pins H' b)∧R J H'
def PI (X:Cx) (tg iter:Expr) (wi:TI):Prop :=
 ∀ (pins:List (Addr × Obj)) (s:Shared) (σ:St) (H:Hp) (R:It→Hp→Prop),Inv X pins σ H s→wi σ H R →
  wpAny (model X.prog X.w) X.A (eval iter X.env) (fun v s1=>wpAny (model X.prog X.w) X.A (pyIter v) (PIE X pins σ tg R) X.xe s1) X.xe s
theorem lF {M:Model} {A:Around} {E:Value→Shared→Prop} {s:Shared} {tg:Expr} {it:Addr} {u:Value} {o:Obj} {n:String} {vs:Array Value} {Q:Unit→Shared→Prop} (ho:s.heap.get? it=some o) (hc:o.cls=.type n) (hd:o.data=.fields vs)
  (hn:["enumerate", "zip", "dict_itemiterator", "dict_reverseitemiterator", "odict_iterator", "itertools.zip_longest", "itertools.pairwise"].contains n=false) (hQ:Q () s):wpAny M A (letOwnedTupleGo tg (.ref it) u) Q E s:=by
 unfold letOwnedTupleGo
 cases tg <;> first
  | exact wpAny_pure hQ
  | (cases u <;> first
    | exact wpAny_pure hQ
    | (refine wpAny_bind (wpAny_load ho ?_)
       rw [hc,hd]
       show wpAny M A (if (["enumerate", "zip", "dict_itemiterator", "dict_reverseitemiterator", "odict_iterator", "itertools.zip_longest", "itertools.pairwise"].contains n && vs[0]? == some (rawInt _))=true then _ else _) Q E s
       rw [if_neg (by intro h; rw [hn,Bool.false_and] at h; cases h)]
       exact wpAny_pure hQ))
def Itl (K:PySem.W.Frag) (a:Addr):It :=
 ⟨fun i H=>∃ xs x,SqL K H a xs∧xs[i]?=some x,fun i H x H'=>H'=H∧∀ xs,SqL K H a xs→xs[i]?=some x,fun i H=>∃ xs,SqL K H a xs∧xs.length≤i⟩
def Itt (K:PySem.W.Frag) (a:Addr):It :=
 ⟨fun i H=>∃ xs x,SqT K H a xs∧xs[i]?=some x,fun i H x H'=>H'=H∧∀ xs,SqT K H a xs→xs[i]?=some x,fun i H=>∃ xs,SqT K H a xs∧xs.length≤i⟩
def Itr (lo:Int) (n:Nat):It:=⟨fun i _=>i < n,fun i H x H'=>H'=H∧x=.int (lo+i),fun i _=>n≤i⟩
theorem oU {P:Program} {w:World} {K:PySem.W.Frag} {tg:Expr} (a it:Addr):Turn P w K tg (Itl K a) [it] it (fun i h=>h.IsListIter it a i) where
 mem:=by simp
 obj:=fun i h st b hb=>by
  have e:b=it:=by simpa using hb
  subst e
  obtain ⟨o,e,c,d⟩:=st
  exact ⟨o,e,fun v z=>by rw [d] at z; cases z⟩
 keep:=fun i h h' st k=>st.at fun o e=>k it (by simp) o e
 item:=by
  intro X hP hw hK hc i pins s σ H E I hf st hg
  subst hP hw hK
  obtain ⟨xs,x,hq,hx⟩:=hg
  obtain ⟨its,rv,p,hz⟩:=I.list hq
  obtain ⟨u,hu,ru⟩:=rv.get hx
  obtain ⟨f0,f1,f2,f3,f4,f5⟩:=hf it (by simp)
  refine wpAny_pyNext_list_item st p.isList (x:=u) (by simpa using hu) fun h' st' sb=>?_
  have I1:Inv X pins σ H { s with heap:=h' }:=I.turned (t':=s.toks) (fun b o hb e=>(sb.2 b hb).trans e) f0 f1 f3 f4 f5
  obtain ⟨o,e,c,d⟩:=id st'
  exact ⟨u,rfl,lF (s:={ s with heap:=h' }) e c d (by decide) ⟨x,H,I1,ru,⟨rfl,fun ys hy=>by rw [I.list_inj hy hq]; exact hx⟩,st',fun b hb=>(hf b hb).1⟩⟩
 done:=by
  intro X hP hw hK hc i pins s σ H E I hf st hg
  subst hP hw hK
  obtain ⟨xs,hq,hx⟩:=hg
  obtain ⟨its,rv,p,hz⟩:=I.list hq
  obtain ⟨f0,f1,f2,f3,f4,f5⟩:=hf it (by simp)
  have hl:=rv.length
  exact wpAny_pyNext_list_end (I.ok.hd hc) st p.isList (by simp; omega) fun h' eb=>⟨rfl,I.turned (t':=s.toks) (fun b o hb e=>eb b o hb e) f0 f1 f3 f4 f5⟩
 self:=fun _ _ _ _ _ st h=>wpAny_pyIter_listiter st h
theorem nP {P:Program} {w:World} {K:PySem.W.Frag} {tg:Expr} (a it:Addr):Turn P w K tg (Itt K a) [it] it (fun i h=>h.IsTupleIter it a i) where
 mem:=by simp
 obj:=fun i h st b hb=>by
  have e:b=it:=by simpa using hb
  subst e
  obtain ⟨o,e,c,d⟩:=st
  exact ⟨o,e,fun v z=>by rw [d] at z; cases z⟩
 keep:=fun i h h' st k=>st.at fun o e=>k it (by simp) o e
 item:=by
  intro X hP hw hK hc i pins s σ H E I hf st hg
  subst hP hw hK
  obtain ⟨xs,x,hq,hx⟩:=hg
  obtain ⟨its,rv,p,hz⟩:=I.tuple hq
  obtain ⟨u,hu,ru⟩:=rv.get hx
  obtain ⟨f0,f1,f2,f3,f4,f5⟩:=hf it (by simp)
  refine wpAny_pyNext_tuple_item st (show s.heap.IsTuple a its.toArray from p) (x:=u) (by simpa using hu) fun h' st' sb=>?_
  have I1:Inv X pins σ H { s with heap:=h' }:=I.turned (t':=s.toks) (fun b o hb e=>(sb.2 b hb).trans e) f0 f1 f3 f4 f5
  obtain ⟨o,e,c,d⟩:=id st'
  exact ⟨u,rfl,lF (s:={ s with heap:=h' }) e c d (by decide) ⟨x,H,I1,ru,⟨rfl,fun ys hy=>by rw [I.tuple_inj hy hq]; exact hx⟩,st',fun b hb=>(hf b hb).1⟩⟩
 done:=by
  intro X hP hw hK hc i pins s σ H E I hf st hg
  subst hP hw hK
  obtain ⟨xs,hq,hx⟩:=hg
  obtain ⟨its,rv,p,hz⟩:=I.tuple hq
  obtain ⟨f0,f1,f2,f3,f4,f5⟩:=hf it (by simp)
  have hl:=rv.length
  exact wpAny_pyNext_tuple_end (I.ok.hd hc) st (show s.heap.IsTuple a its.toArray from p) (by simp; omega) fun h' eb=>⟨rfl,I.turned (t':=s.toks) (fun b o hb e=>eb b o hb e) f0 f1 f3 f4 f5⟩
 self:=fun _ _ _ _ _ st h=>wpAny_pyIter_tupleiter st h
theorem nQ {P:Program} {w:World} {K:PySem.W.Frag} {tg:Expr} (it:Addr) (lo:Int) (n:Nat):Turn P w K tg (Itr lo n) [it] it (fun i h=>IsRangeIter h it (lo+(i:Nat) * 1) ((n:Int) - (i:Nat)) 1) where
 mem:=by simp
 obj:=fun i h st b hb=>by
  have e:b=it:=by simpa using hb
  subst e
  exact ⟨_,st,fun v z=>by
   have z':Data.fields _=Data.cell v:=z
   cases z'⟩
 keep:=fun i h h' st k=>k it (by simp) _ st
 item:=by
  intro X hP hw hK hc i pins s σ H E I hf st hg
  subst hP hw hK
  obtain ⟨f0,f1,f2,f3,f4,f5⟩:=hf it (by simp)
  have W:=Walks.range (prog:=X.prog) (w:=X.w) (I.ok.hd hc) it lo 1 n
  refine W.item i s _ _ hg st fun v h' tk hv st' kk=>?_
  obtain ⟨t,rfl⟩:=hv
  have I1:Inv X pins σ H { s with heap:=h',toks:=tk }:=I.turned (fun b o hb e=>kk b o (by simpa using hb) e) f0 f1 f3 f4 f5
  refine ⟨_,rfl,lF (s:={ s with heap:=h',toks:=tk }) (n:="range_iterator") st' rfl rfl (by decide) ⟨.int (lo+i),H,I1,⟨t,?_⟩,⟨rfl,rfl⟩,st',fun b hb=>(hf b hb).1⟩⟩
  rw [Int.mul_one]
 done:=by
  intro X hP hw hK hc i pins s σ H E I hf st hg
  subst hP hw hK
  obtain ⟨f0,f1,f2,f3,f4,f5⟩:=hf it (by simp)
  exact wpAny_pyNext_range_end (I.ok.hd hc) st (by have:n≤i:=hg; omega) fun h' eb=>⟨rfl,I.turned (t':=s.toks) (fun b o hb e=>eb b o hb e) f0 f1 f3 f4 f5⟩
 self:=fun _ _ _ _ _ st h=>wpAny_pyIter_rangeiter st h
end L2
namespace L2
open PySem PySem.Spec PyProof.Rows
section
variable {X:Cx} {tg:Expr}
theorem lV {pins:List (Addr × Obj)} {σ:St} {H:Hp} {s:Shared} {R:It→Hp→Prop} {E:Value→Shared→Prop} {lo hi:Int} {t u v:Tok} {tk:Nat} (I:Inv X pins σ H s) (h1:-(2 ^ 62)≤lo) (h2:lo < 2 ^ 62) (h3:-(2 ^ 62)≤hi) (h4:hi < 2 ^ 62)
  (q:R (Itr lo (hi - lo).toNat) H):wpAny (model X.prog X.w) X.A (pyIter (.ref s.heap.objs.size)) (PIE X pins σ tg R) E { s with heap:=s.heap.push { cls:=.type "range",data:=.fields #[.int lo t,.int hi u,.int 1 v] },toks:=tk }:=by
 refine wpAny_pyIter_range (IsRange.new ..) (small_one h1 h2 h3 h4) ?_
 have I1:Inv X pins σ H { s with heap:=s.heap.push { cls:=.type "range",data:=.fields #[.int lo t,.int hi u,.int 1 v] },toks:=tk }:=I.kept fun b o e=>Heap.get?_push_of_some _ e
 refine ⟨(s.heap.push { cls:=.type "range",data:=.fields #[.int lo t,.int hi u,.int 1 v] }).objs.size,[(s.heap.push { cls:=.type "range",data:=.fields #[.int lo t,.int hi u,.int 1 v] }).objs.size],_,_,H,rfl,
  I1.kept (t':=tk) fun b o e=>Heap.get?_push_of_some _ e,nQ _ lo (hi - lo).toNat,?_,fun b hb=>?_,q⟩
 ·have e1:lo+((0:Nat):Int) * 1=lo:=by simp
  have e2:(((hi - lo).toNat:Nat):Int) - ((0:Nat):Int)=Builtin.Range.rangeSize lo hi 1:=by rw [rangeSize_one]; split <;> omega
  show IsRangeIter _ _ (lo+((0:Nat):Int) * 1) ((((hi - lo).toNat:Nat):Int) - ((0:Nat):Int)) 1
  rw [e1,e2]
  exact Heap.get?_push_size _ rfl
 ·have e:b=(s.heap.push { cls:=.type "range",data:=.fields #[.int lo t,.int hi u,.int 1 v] }).objs.size:=by simpa using hb
  subst e
  exact I1.fpOk (Nat.le_refl _) (I1.hok.fresh (Nat.le_refl _))
def D9 (ta:TA):TI:=fun σ H R=>ta σ H fun vs H1=>∃ j:Int,vs=[.int j]∧-(2 ^ 62)≤j∧j < 2 ^ 62∧R (Itr 0 j.toNat) H1
def D8 (ta:TA):TI:=fun σ H R=>ta σ H fun vs H1=>∃ i j:Int,vs=[.int i,.int j]∧(-(2 ^ 62)≤i∧i < 2 ^ 62∧-(2 ^ 62)≤j∧j < 2 ^ 62)∧R (Itr i (j - i).toNat) H1
theorem o9 {a:Expr} {ta:TA} {p pos:Pos} (hg:Gl X "range") (hm:X.mg "range"=none) (ha:PA X [a] ta) (hs:starEach [a] X.env=[(false,eval a X.env)]:=by rfl):PI X tg (.Call (.Name "range" p) [a] [] pos) (D9 ta):=by
 intro pins s σ H R I h
 refine Call_ (gM I hg hm boot_range (PyProof.Rows.callWith_type1 (thn (ha pos pins s σ H _ I h) fun us s1 ⟨vs,H1,I1,r1,q1⟩=>?_) hs rfl))
 obtain ⟨j,e,q1,q2,q⟩:=q1
 subst e
 cases r1 with
 | cons r rr =>
  cases rr
  obtain ⟨t,rfl⟩:=r
  exact call_range_1 (lV I1 (by omega) (by omega) q1 q2 (by simpa using q))
theorem o8 {a b:Expr} {ta:TA} {p pos:Pos} (hg:Gl X "range") (hm:X.mg "range"=none) (ha:PA X [a,b] ta) (hs:starEach [a,b] X.env=[(false,eval a X.env),(false,eval b X.env)]:=by rfl) (hs2:starEach [b] X.env=[(false,eval b X.env)]:=by rfl) :
  PI X tg (.Call (.Name "range" p) [a,b] [] pos) (D8 ta):=by
 intro pins s σ H R I h
 refine Call_ (gM I hg hm boot_range (PyProof.Rows.callWith_type1 (thn (ha pos pins s σ H _ I h) fun us s1 ⟨vs,H1,I1,r1,q1⟩=>?_) (by rw [hs,hs2]) (by rw [hs2]; rfl)))
 obtain ⟨i,j,e,⟨q1,q2,q3,q4⟩,q⟩:=q1
 subst e
 cases r1 with
 | cons r rr =>
  cases rr with
  | cons r' rr =>
   cases rr
   obtain ⟨t,rfl⟩:=r
   obtain ⟨t',rfl⟩:=r'
   exact call_range_2 (lV I1 q1 q2 q3 q4 q)
def BE (wi:TI) (g:TG) (tb:TS):TS:=fun D σ H=>wi σ H fun J H1=>∃ W:Nat→Nat→St→Hp→Prop,(∃ m,W 0 m σ H1)∧∀ i m σ H,W i m σ H →
 (J.stop i H∧D.nx σ H)∨(J.go i H∧∃ N:St→Hp→Prop,(∀ σ' H',N σ' H'→∃ m',m' < m∧W (i+1) m' σ' H')∧∀ x H',J.yld i H x H'→g x σ H' fun σ2 H2=>tb { D with nx:=N,ct:=N,bk:=D.nx } σ2 H2)
def iL (fp:List Addr) (h:Heap):List (Addr × Obj):=fp.filterMap fun b=>(h.get? b).map fun o=>(b,o)
theorem fC {fp:List Addr} {h:Heap} {b:Addr} {o:Obj} (hb:b∈fp) (e:h.get? b=some o):(b,o)∈iL fp h:=List.mem_filterMap.mpr ⟨b,hb,by rw [e]; rfl⟩
theorem pd {fp:List Addr} {h:Heap} {p:Addr × Obj} (hp:p∈iL fp h):p.1∈fp∧h.get? p.1=some p.2:=by
 obtain ⟨b,hb,e⟩:=List.mem_filterMap.mp hp
 cases q:h.get? b with
 | none=>rw [q] at e; cases e
 | some o =>
  rw [q] at e
  have e':(b,o)=p:=Option.some.inj e
  subst e'
  exact ⟨hb,q⟩
theorem Inv.pinned {pins:List (Addr × Obj)} {σ:St} {H:Hp} {s:Shared} {fp:List Addr} (I:Inv X pins σ H s) (hf:∀ b∈fp,fy X pins H b) (ho:∀ b∈fp,∃ o,s.heap.get? b=some o∧∀ v,o.data≠.cell v):Inv X (pins++iL fp s.heap) σ H s :=
 I.pins_of fun p hp=>(List.mem_append.mp hp).elim (fun z=>I.pin p (List.mem_append_right _ z)) fun z=>by
  obtain ⟨hb,e⟩:=pd z
  obtain ⟨f0,f1,f2,_⟩:=hf p.1 hb
  obtain ⟨o,e',d⟩:=ho p.1 hb
  rw [e] at e'; cases e'
  exact ⟨e,f0,f1,f2,d⟩
theorem Inv.unpinned {pins pl:List (Addr × Obj)} {σ:St} {H:Hp} {s:Shared} (I:Inv X (pins++pl) σ H s):Inv X pins σ H s:=I.pins_of fun p hp=>I.pin p (List.mem_append_right _ (List.mem_append_left _ hp))
theorem B0 {iter:Expr} {body:List Stmt} {wi:TI} {g:TG} {tb:TS} {pos:Pos} (hp:PassesOwn (model X.prog X.w) X.A X.env X.xe) (hc:X.calm=true) (hi:PI X tg iter wi) (hg:PG X tg g) (hb:PSs X body tb)
  (hs:∀ x,foldedSetIterable iter X.env x=pure x:=by intro _; rfl):PS X (.For tg iter body [] pos) (BE wi g tb):=by
 intro pins s σ H D I h
 refine wpAny_For (thn (hi pins s σ H _ I h) fun v s1 h1=>thn h1 fun itv s2 h2=>?_) hs
 obtain ⟨it,fp,tn,J,H2,e,I2,T,st2,f2,W,⟨m0,w0⟩,turn⟩:=h2
 subst e
 have stat:∀ {H':Hp},(∀ b∈fp,H' b=none)→∀ b∈fp,fy X pins H' b:=fun hn b hb=>⟨hn b hb,(f2 b hb).2⟩
 refine codeAny_forLoop_any (fun n s'=>∃ i σ' H',Inv X pins σ' H' s'∧tn i s'.heap∧(∀ b∈fp,H' b=none)∧W i n σ' H') ?_ m0 ⟨0,σ,H2,I2,st2,fun b hb=>(f2 b hb).1,w0⟩
 rintro n s3 ⟨i,σ3,H3,I3,st3,fr3,w3⟩
 rcases turn i n σ3 H3 w3 with ⟨stop,qn⟩ | ⟨go,N,hN,step⟩
 ·refine wpAny_passesOwn hp (thn (T.done X rfl rfl rfl hc i pins s3 σ3 H3 X.xe I3 (stat fr3) st3 stop) fun r s4 ⟨hr,I4⟩=>?_)
  subst hr
  exact wpAny_execs_nil ⟨σ3,H3,I4,qn⟩
 ·refine wpAny_passesOwn hp (thn (T.item X rfl rfl rfl hc i pins s3 σ3 H3 X.xe I3 (stat fr3) st3 go) fun r s4 ⟨u,hr,h4⟩=>?_)
  subst hr
  refine wpAny_passesOwn hp (thn h4 fun _ s5 ⟨x,H5,I5,r5,y5,st5,fr5⟩=>?_)
  have I5':=I5.pinned (stat fr5) (T.obj _ _ st5)
  refine wpAny_passesOwn hp (thn (hg _ s5 σ3 H5 x u _ I5' r5 (step x H5 y5)) fun _ s6 ⟨σ6,H6,I6,q6⟩=>?_)
  refine wpAny_passesOwn hp (thn (hb _ s6 σ6 H6 _ I6 q6) fun f s7 q7=>?_)
  have again:∀ {σ7:St} {H7:Hp},Inv X (pins++iL fp s5.heap) σ7 H7 s7→N σ7 H7→∃ m,m < n∧∃ i σ' H',Inv X pins σ' H' s7∧tn i s7.heap∧(∀ b∈fp,H' b=none)∧W i m σ' H':=fun {σ7 H7} I7 n7=>by
   obtain ⟨m',hm,w7⟩:=hN σ7 H7 n7
   refine ⟨m',hm,i+1,σ7,H7,I7.unpinned,T.keep _ _ _ st5 fun b hb o e=>(I7.pin (b,o) (List.mem_append_right _ (List.mem_append_right _ (fC hb e)))).1,fun b hb=>?_,w7⟩
   obtain ⟨o,e,d⟩:=T.obj _ _ st5 b hb
   exact (I7.pin (b,o) (List.mem_append_right _ (List.mem_append_right _ (fC hb e)))).2.1
  cases f with
  | next=>obtain ⟨σ7,H7,I7,n7⟩:=q7; exact again I7 n7
  | cont=>obtain ⟨σ7,H7,I7,n7⟩:=q7; exact again I7 n7
  | brk=>obtain ⟨σ7,H7,I7,q7⟩:=q7; exact ⟨σ7,H7,I7.unpinned,q7⟩
  | ret v=>obtain ⟨x7,σ7,H7,I7,r7,q7⟩:=q7; exact ⟨x7,σ7,H7,I7.unpinned,r7,q7⟩
end
end L2
namespace L2
open PySem PySem.Spec PyProof.Rows
abbrev R2:=V→V→Hp→VK→Prop
def OpR (X:Cx) (f:Value→Value→Sem Value) (r:R2):Prop :=
 ∀ (pins:List (Addr × Obj)) (s:Shared) (σ:St) (H:Hp) (x y:V) (v u:Value) (Q:VK),Inv X pins σ H s→RelV x v→RelV y u→r x y H Q →
  wpAny (model X.prog X.w) X.A (f v u) (EP X pins σ Q) X.xe s
def UnR (X:Cx) (f:Value→Sem Value) (r:V→Hp→VK→Prop):Prop :=
 ∀ (pins:List (Addr × Obj)) (s:Shared) (σ:St) (H:Hp) (x:V) (v:Value) (Q:VK),Inv X pins σ H s→RelV x v→r x H Q →
  wpAny (model X.prog X.w) X.A (f v) (EP X pins σ Q) X.xe s
def CallR (X:Cx) (f:Value) (r:List V→Hp→VK→Prop):Prop :=
 ∀ (pins:List (Addr × Obj)) (s:Shared) (σ:St) (H:Hp) (xs:List V) (us:List Value) (Q:VK),Inv X pins σ H s→Vals xs us→r xs H Q →
  wpAny (model X.prog X.w) X.A (call f us) (EP X pins σ Q) X.xe s
def EY (X:Cx) (r:V→Hp→(Bool→Hp→Prop)→Prop):Prop :=
 ∀ (pins:List (Addr × Obj)) (s:Shared) (σ:St) (H:Hp) (x:V) (v:Value) (Q:Bool→Hp→Prop),Inv X pins σ H s→RelV x v→r x H Q →
  wpAny (model X.prog X.w) X.A (truthy v) (TP X pins σ Q) X.xe s
def tOp (r:R2) (ta tb:TE):TE:=fun σ H Q=>ta σ H fun x H1=>tb σ H1 fun y H2=>r x y H2 Q
def tUn (r:V→Hp→VK→Prop) (ta:TE):TE:=fun σ H Q=>ta σ H fun x H1=>r x H1 Q
def rI (C:Int→Int→Prop) (g:Int→Int→V):R2:=fun x y H Q=>∃ i j,x=.int i∧y=.int j∧C i j∧Q (g i j) H
def rI0 (g:Int→Int→V):R2:=fun x y H Q=>∃ i j,x=.int i∧y=.int j∧Q (g i j) H
def rU (g:Int→V):V→Hp→VK→Prop:=fun x H Q=>∃ i,x=.int i∧Q (g i) H
section
variable {X:Cx} {a b c:Expr} {ta tb tc:TE} {pos:Pos}
theorem rF (ha:PE X a ta) (hb:PE X b tb) {pins:List (Addr × Obj)} {s:Shared} {σ:St} {H:Hp} {R:V→V→Hp→Prop} (I:Inv X pins σ H s)
  (h:ta σ H fun x H1=>tb σ H1 fun y H2=>R x y H2) {Q:Value→Shared→Prop} {f:Value→Value→Sem Value}
  (hf:∀ v u s2 x y H2,Inv X pins σ H2 s2→RelV x v→RelV y u→R x y H2→wpAny (model X.prog X.w) X.A (f v u) Q X.xe s2) :
  wpAny (model X.prog X.w) X.A (eval a X.env) (fun v s₁=>wpAny (model X.prog X.w) X.A (eval b X.env) (fun u s₂=>wpAny (model X.prog X.w) X.A (f v u) Q X.xe s₂) X.xe s₁) X.xe s:=by
 refine thn (ha pins s σ H _ I h) fun v s1 ⟨x,H1,I1,r1,q1⟩=>?_
 refine thn (hb pins s1 σ H1 _ I1 q1) fun u s2 ⟨y,H2,I2,r2,q2⟩=>?_
 exact hf v u s2 x y H2 I2 r1 r2 q2
theorem DY {op:Operator} {r:R2} (ho:OpR X (binaryOp op) r) (ha:PE X a ta) (hb:PE X b tb):PE X (.BinOp a op b pos) (tOp r ta tb):=by
 intro pins s σ H Q I h
 exact wpAny_BinOp (rF ha hb I h fun v u s2 x y H2 I2 rx ry q=>ho pins s2 σ H2 x y v u Q I2 rx ry q)
theorem DW {op:UnaryOp} {r:V→Hp→VK→Prop} (ho:UnR X (unaryOp op) r) (ha:PE X a ta):PE X (.UnaryOp op a pos) (tUn r ta):=by
 intro pins s σ H Q I h
 exact UnaryOp_ (thn (ha pins s σ H _ I h) fun v s1 ⟨x,H1,I1,r1,q1⟩=>ho pins s1 σ H1 x v Q I1 r1 q1)
theorem opI {f:Value→Value→Sem Value} {C:Int→Int→Prop} {g:Int→Int→Int}
  (rule:∀ (i j:Int) (t u:Tok) (s:Shared) (Q:Value→Shared→Prop) (E:Value→Shared→Prop),C i j→Q (.int (g i j) s.toks) { s with toks:=s.toks+1 }→wpAny (model X.prog X.w) X.A (f (.int i t) (.int j u)) Q E s) :
  OpR X f (rI C fun i j=>.int (g i j)):=by
 intro pins s σ H x y v u Q I rx ry h
 obtain ⟨i,j,rfl,rfl,hc,q⟩:=h
 obtain ⟨t,rfl⟩:=rx
 obtain ⟨t',rfl⟩:=ry
 exact rule i j t t' s _ _ hc ⟨.int (g i j),H,I.tok _,⟨_,rfl⟩,q⟩
theorem B9 {f:Value→Value→Sem Value} {g:Int→Int→Int}
  (rule:∀ (i j:Int) (t u:Tok) (s:Shared) (Q:Value→Shared→Prop) (E:Value→Shared→Prop),Q (.int (g i j) s.toks) { s with toks:=s.toks+1 }→wpAny (model X.prog X.w) X.A (f (.int i t) (.int j u)) Q E s) :
  OpR X f (rI0 fun i j=>.int (g i j)):=by
 intro pins s σ H x y v u Q I rx ry h
 obtain ⟨i,j,rfl,rfl,q⟩:=h
 obtain ⟨t,rfl⟩:=rx
 obtain ⟨t',rfl⟩:=ry
 exact rule i j t t' s _ _ ⟨.int (g i j),H,I.tok _,⟨_,rfl⟩,q⟩
theorem nX {f:Value→Value→Sem Value} {g:Int→Int→Bool}
  (rule:∀ (i j:Int) (t u:Tok) (s:Shared) (Q:Value→Shared→Prop) (E:Value→Shared→Prop),Q (.bool (g i j)) s→wpAny (model X.prog X.w) X.A (f (.int i t) (.int j u)) Q E s) :
  OpR X f (rI0 fun i j=>.bl (g i j)):=by
 intro pins s σ H x y v u Q I rx ry h
 obtain ⟨i,j,rfl,rfl,q⟩:=h
 obtain ⟨t,rfl⟩:=rx
 obtain ⟨t',rfl⟩:=ry
 exact rule i j t t' s _ _ ⟨.bl (g i j),H,I,rfl,q⟩
def iB (i j:Int):Prop:=0 < j∧j < 1073741824
def ga (i j:Int):Prop:=0≤j∧j≤1000000∧i.natAbs < 2 ^ 64
def CMul (i j:Int):Prop:=(-(2 ^ 64) < i∧i < 2 ^ 64)∨(-(2 ^ 64) < j∧j < 2 ^ 64)
theorem CMul.ok {i j:Int} (h:CMul i j):IntMulOk i j:=by
 rcases h with ⟨h1,h2⟩ | ⟨h1,h2⟩
 ·exact .of_left (intBits_le_64 h1 h2)
 ·exact .of_right (intBits_le_64 h1 h2)
theorem op_add:OpR X (binaryOp .Add) (rI0 fun i j=>.int (i+j)):=B9 fun _ _ _ _ _ _ _ q=>add_int q
theorem op_sub:OpR X (binaryOp .Sub) (rI0 fun i j=>.int (i - j)):=B9 fun _ _ _ _ _ _ _ q=>sub_int q
theorem op_mul:OpR X (binaryOp .Mult) (rI CMul fun i j=>.int (i * j)):=opI fun _ _ _ _ _ _ _ hc q=>mul_int q hc.ok
theorem op_fdiv:OpR X (binaryOp .FloorDiv) (rI iB fun i j=>.int (i / j)):=opI fun i j _ _ _ _ _ hc q=>by
 have h1:(0:Int) < j:=hc.1
 have h2:j < 1073741824:=hc.2
 exact floordiv_int (by omega) (by rw [Int.fdiv_eq_ediv_of_nonneg i (by omega)]; exact q) (.inl (PyProof.noPylong_small (by omega)))
theorem op_mod:OpR X (binaryOp .Mod) (rI (fun _ j=>0 < j) fun i j=>.int (i % j)):=opI fun i j _ _ _ _ _ hc q=>by
 have h1:(0:Int) < j:=hc
 exact mod_int' (by omega) (by rw [Int.fmod_eq_emod_of_nonneg i (by omega)]; exact q)
theorem op_pow:OpR X (binaryOp .Pow) (rI ga fun i j=>.int (i ^ j.toNat)):=opI fun _ _ _ _ _ _ _ hc q=>pow_int_small hc.1 hc.2.1 hc.2.2 q
theorem unI {f:Value→Sem Value} {g:Int→Int}
  (rule:∀ (i:Int) (t:Tok) (s:Shared) (Q:Value→Shared→Prop) (E:Value→Shared→Prop),Q (.int (g i) s.toks) { s with toks:=s.toks+1 }→wpAny (model X.prog X.w) X.A (f (.int i t)) Q E s) :
  UnR X f (rU fun i=>.int (g i)):=by
 intro pins s σ H x v Q I rx h
 obtain ⟨i,rfl,q⟩:=h
 obtain ⟨t,rfl⟩:=rx
 exact rule i t s _ _ ⟨.int (g i),H,I.tok _,⟨_,rfl⟩,q⟩
theorem un_neg:UnR X (unaryOp .USub) (rU fun i=>.int (-i)):=unI fun _ _ _ _ _ q=>neg_int q
end
section
variable {X:Cx} {a b c:Expr} {ta tb tc:TE} {pos:Pos}
theorem pO {pins:List (Addr × Obj)} {σ:St} {H:Hp} {s:Shared} {Q:VK} {k k':Bool} (I:Inv X pins σ H s) (q:Q (.bl k) H) (e:k=k'):EP X pins σ Q (.bool k') s:=by
 subst e
 exact ⟨.bl k,H,I,rfl,q⟩
theorem op_lt:OpR X (compareOp .Lt) (rI0 fun i j=>.bl (decide (i < j))):=nX fun _ _ _ _ _ _ _ q=>lt_int q
theorem op_le:OpR X (compareOp .LtE) (rI0 fun i j=>.bl (decide (i≤j))):=nX fun _ _ _ _ _ _ _ q=>le_int q
theorem op_gt:OpR X (compareOp .Gt) (rI0 fun i j=>.bl (decide (j < i))):=nX fun _ _ _ _ _ _ _ q=>gt_int q
theorem op_ge:OpR X (compareOp .GtE) (rI0 fun i j=>.bl (decide (j≤i))):=nX fun _ _ _ _ _ _ _ q=>ge_int q
theorem op_isN:OpR X (compareOp .Is) (fun x y H Q=>y=.non∧Q (.bl (decide (x=.non))) H):=by
 intro pins s σ H x y v u Q I rx ry h
 obtain ⟨rfl,q⟩:=h
 cases ry
 refine is_none_gen (pO I q ?_)
 cases x <;> first
  | (cases rx; rfl)
  | (obtain ⟨t,rfl⟩:=rx; rfl)
theorem op_notN:OpR X (compareOp .IsNot) (fun x y H Q=>y=.non∧Q (.bl (!decide (x=.non))) H):=by
 intro pins s σ H x y v u Q I rx ry h
 obtain ⟨rfl,q⟩:=h
 cases ry
 refine isnot_none_gen (pO I q ?_)
 cases x <;> first
  | (cases rx; rfl)
  | (obtain ⟨t,rfl⟩:=rx; rfl)
theorem aX (b:Expr) {op:CmpOp} (h:op≠.In:=by decide) (h2:op≠.NotIn:=by decide):behindInMarks op b=false:=by
 have e1:(op == CmpOp.In)=false:=by cases op <;> first | rfl | exact absurd rfl h
 have e2:(op == CmpOp.NotIn)=false:=by cases op <;> first | rfl | exact absurd rfl h2
 cases b <;> simp [behindInMarks,e1,e2]
theorem ya {op:CmpOp} {r:R2} (ho:OpR X (compareOp op) r) (ha:PE X a ta) (hb:PE X b tb) (hm:behindInMarks op b=false):PE X (.Compare a [op] [b] pos) (tOp r ta tb):=by
 intro pins s σ H Q I h
 exact wpAny_Compare1 (rF ha hb I h fun v u s2 x y H2 I2 rx ry q=>ho pins s2 σ H2 x y v u Q I2 rx ry q) hm
def DI (t:TE):TT:=fun σ H Q=>t σ H fun x H'=>∃ k,x=.bl k∧Q k H'
theorem xP {op:CmpOp} {r:R2} (ho:OpR X (compareOp op) r) (ha:PE X a ta) (hb:PE X b tb) (hm:behindInMarks op b=false):PT X (.Compare a [op] [b] pos) (DI (tOp r ta tb)):=by
 intro pins s σ H Q I h
 refine wpAny_isTrue_Compare1 (thn (ha pins s σ H _ I h) fun v s1 ⟨x,H1,I1,r1,q1⟩=>thn (hb pins s1 σ H1 _ I1 q1) fun u s2 ⟨y,H2,I2,r2,q2⟩ =>
  thn (ho pins s2 σ H2 x y v u _ I2 r1 r2 q2) fun c s3 ⟨z,H3,I3,r3,k,e,q3⟩=>?_) hm
 subst e
 cases r3
 exact wpAny_truthy_bool ⟨H3,I3,q3⟩
def EX (K:PySem.W.Frag) (x:V) (H:Hp) (k:Bool):Prop :=
 match x with
 | .non=>k=false
 | .bl b=>k=b
 | .int i=>k=(i != 0)
 | .str y=>y.length≤sizeLine∧k=((y.length:Int) != 0)
 | .byt y=>y.size≤sizeLine∧k=((y.size:Int) != 0)
 | .ref p=>(∃ xs,SqL K H p xs∧k=!xs.isEmpty)∨(∃ xs,SqT K H p xs∧k=!xs.isEmpty)∨∃ kvs,H p=some (.dK kvs)∧k=!kvs.isEmpty
 | _=>False
theorem gL:(sizeLine:Nat) < 2 ^ 63:=by rw [sizeLine_eq]; decide
theorem nW:OpR X (binaryOp .Add) (fun x y H Q=>∃ i j,x=.str i∧y=.str j∧i.length+j.length≤sizeLine∧Q (.str (i++j)) H):=by
 intro pins s σ H x y v u Q I rx ry h
 obtain ⟨i,j,rfl,rfl,hz,q⟩:=h
 obtain ⟨t,rfl⟩:=rx
 obtain ⟨t',rfl⟩:=ry
 exact add_str (fun t' tk=>⟨.str (i++j),H,I.tok _,⟨_,rfl⟩,q⟩) hz
theorem cz {x:V} {us:List Value} (r:Vals [x] us):∃ u,us=[u]∧RelV x u:=by
 cases r with
 | cons r1 r2=>cases r2; exact ⟨_,rfl,r1⟩
theorem w8 {x y:V} {us:List Value} (r:Vals [x,y] us):∃ u w',us=[u,w']∧RelV x u∧RelV y w':=by
 cases r with
 | cons r1 r2 =>
  cases r2 with
  | cons r3 r4=>cases r4; exact ⟨_,_,rfl,r1,r3⟩
theorem call_abs:CallR X (.builtin "abs") (fun xs H Q=>∃ i,xs=[.int i]∧Q (.int (if i < 0 then -i else i)) H):=by
 intro pins s σ H xs us Q I r h
 obtain ⟨i,rfl,q⟩:=h
 obtain ⟨u,rfl,t,rfl⟩:=cz r
 exact call_abs_int fun u tk=>⟨.int (if i < 0 then -i else i),H,I.tok _,⟨_,rfl⟩,q⟩
theorem call_int1:CallR X (.type "int") (fun xs H Q=>(∃ i,xs=[.int i]∧Q (.int i) H)∨∃ k,xs=[.bl k]∧Q (.int (if k then 1 else 0)) H):=by
 intro pins s σ H xs us Q I r h
 rcases h with ⟨i,rfl,q⟩ | ⟨k,rfl,q⟩
 ·obtain ⟨u,rfl,t,rfl⟩:=cz r
  exact call_int_int ⟨.int i,H,I,⟨_,rfl⟩,q⟩
 ·obtain ⟨u,rfl,r1⟩:=cz r
  cases r1
  exact call_int_bool ⟨.int (if k then 1 else 0),H,I.tok _,⟨_,rfl⟩,q⟩
theorem call_str_int:CallR X (.type "str") (fun xs H Q=>∃ i,xs=[.int i]∧i.natAbs.log2 < 1920∧Q (.str (toString i)) H):=by
 intro pins s σ H xs us Q I r h
 obtain ⟨i,rfl,hz,q⟩:=h
 obtain ⟨u,rfl,t,rfl⟩:=cz r
 exact PySem.P.str_of_int hz ⟨.str _,H,I.tok _,⟨_,rfl⟩,q⟩
def DH (K:PySem.W.Frag) (x:V) (H:Hp) (n:Nat):Prop :=
 match x with
 | .str y=>y.length≤sizeLine∧n=y.length
 | .byt y=>y.size≤sizeLine∧n=y.size
 | .ref p=>(∃ xs,SqL K H p xs∧n=xs.length)∨∃ xs,SqT K H p xs∧n=xs.length
 | _=>False
theorem rB:CallR X (.builtin "len") (fun xs H Q=>∃ x n,xs=[x]∧DH X.K x H n∧Q (.int n) H):=by
 intro pins s σ H xs us Q I r h
 obtain ⟨x,n,rfl,e,q⟩:=h
 obtain ⟨u,rfl,rx⟩:=cz r
 have hl:=gL
 have hs:sizeLine=16777216:=sizeLine_eq
 cases x with
 | str y =>
  obtain ⟨t,rfl⟩:=rx
  obtain ⟨hy,e'⟩:y.length≤sizeLine∧n=y.length:=e
  subst e'
  exact len_str (by omega) ⟨.int _,H,I.tok _,⟨_,rfl⟩,q⟩
 | byt y =>
  obtain ⟨t,rfl⟩:=rx
  obtain ⟨hy,e'⟩:y.size≤sizeLine∧n=y.size:=e
  subst e'
  exact PySem.W.len_bytes (by omega) ⟨.int _,H,I.tok _,⟨_,rfl⟩,q⟩
 | ref p =>
  cases rx
  have e':(∃ xs,SqL X.K H p xs∧n=xs.length)∨∃ xs,SqT X.K H p xs∧n=xs.length:=e
  rcases e' with ⟨xs,hx,e'⟩ | ⟨xs,hx,e'⟩
  ·subst e'
   obtain ⟨its,r',pl,hz⟩:=I.list hx
   have hlen:=r'.length
   exact Calls.call_len_list pl.isList (by simp only [List.size_toArray]; omega) ⟨.int xs.length,H,I.tok _,⟨_,by simp only [List.size_toArray]; rw [hlen]⟩,q⟩
  ·subst e'
   obtain ⟨its,r',pl,hz⟩:=I.tuple hx
   have hlen:=r'.length
   exact len_tuple pl (by simp only [List.size_toArray]; omega) ⟨.int xs.length,H,I.tok _,⟨_,by simp only [List.size_toArray]; rw [hlen]⟩,q⟩
 | _=>exact (show False from e).elim
end
end L2
namespace L2
open PySem PySem.Spec PyProof.Rows
structure ObjM (h:Heap) (x dx C:Addr) (mA:Str→Option Value):Prop where
 obj:h.get? x=some (PySem.W.instObj C dx)
 ns:h.Ns1 dx mA
 ne:dx≠x
theorem ph {h:Heap} {dx:Addr} {mA:Str→Option Value} (n:h.Ns1 dx mA):∃ od,h.get? dx=some od∧∀ name,PySem.W.lookIn name od=some (mA name):=by
 obtain ⟨o,es,ep,ho,hd,hk,_,hm⟩:=n
 refine ⟨o,ho,fun name=>?_⟩
 have e:=hm name
 unfold nsFind findBy at e
 rw [← Array.find?_toList] at e
 unfold PySem.W.lookIn
 rw [hd]
 dsimp only
 split
 ·rename_i y q
  rw [q] at e
  exact congrArg some e
 ·rename_i q
  rw [q] at e
  have a:es.toList.any (·.refKey)=false:=by
   rw [List.any_eq_false]
   intro y hy
   obtain ⟨z,t,hkey⟩:=hk y (Array.mem_toList_iff.mp hy)
   simp [DictEntry.refKey,hkey]
  have a':¬ es.toList.any (·.refKey)=true:=by rw [a]; exact Bool.false_ne_true
  rw [if_neg a']
  exact congrArg some e
theorem ObjM.look {h:Heap} {x dx C:Addr} {mA:Str→Option Value} (I:ObjM h x dx C mA):∃ od,PySem.W.InstAt h x (PySem.W.instObj C dx) C (some od)∧∀ name,PySem.W.lookIn name od=some (mA name) :=
 let ⟨od,ho,hl⟩:=ph I.ns
 ⟨od,⟨I.obj,rfl,rfl,ho⟩,hl⟩
section
variable {prog:Program} {w:World} {A:Around} {E:Value→Shared→Prop} {s:Shared} {K:PySem.W.Frag} {x dx C f:Addr} {mA:Str→Option Value} {name:Str} {v:Value}
end
theorem RelO.some_of {v:V} {o:Option Value} (r:RelO (some v) o):∃ u,o=some u∧RelV v u:=by
 cases o with
 | none=>exact (show False from r).elim
 | some u=>exact ⟨u,rfl,r⟩
section
variable {P:Program} {w:World} {H H':Hp} {h h':Heap} {a C dx:Addr} {fs fs':List (Str × V)}
theorem yt (hok:HOk P w H h) (e:H a=some (.ins C dx fs)):∃ mA,ObjM h a dx C mA∧(∀ f,RelO (fs.lookup f) (mA f))∧PySem.Within mA (fs.map (·.1))∧fs.length≤1000∧H dx=some (.own a):=by
 obtain ⟨d,z,ne,ob,mA,n,r,q⟩:=(show ObjOk P w H h a (.ins C dx fs) from hok a _ e)
 exact ⟨mA,⟨ob,n,ne⟩,r,q,z,d⟩
end
structure Cls (K:PySem.W.Frag) (C:Addr):Prop where
 pg:PySem.W.plainGet K C Str.empty=true
 hd:PySem.W.hasDictIn K C=true
 po:PySem.W.plainOver K C=true
 sa:PySem.W.findIn K (.ref C) "__setattr__"=some (some (.builtin "object.__setattr__"))
theorem Cls.get {K:PySem.W.Frag} {C:Addr} (c:Cls K C) (f:Str):PySem.W.plainGet K C f=true:=c.pg
section
variable {X:Cx} {pins:List (Addr × Obj)} {σ:St} {H:Hp} {s:Shared} {a C dx:Addr} {fs:List (Str × V)} {f:Str} {v:V} {A:Around} {E:Value→Shared→Prop}
end
section
variable {X:Cx} {o e value:Expr} {f:Str} {pos pos' tpos:Pos} {ta tv:TE}
end
section
variable {X:Cx} {pins:List (Addr × Obj)} {σ:St} {H:Hp} {s:Shared} {A:Around} {E:Value→Shared→Prop} {Q:Value→Shared→Prop} {c:Value} {b:Bool}
inductive TyOf (K:PySem.W.Frag) (H:Hp):V→Value→Prop where
 | non:TyOf K H .non (.type "NoneType")
 | bl (x:Bool):TyOf K H (.bl x) (.type "bool")
 | int (i:Int):TyOf K H (.int i) (.type "int")
 | str (x:Str):TyOf K H (.str x) (.type "str")
 | flt (x:UInt64):TyOf K H (.flt x) (.type "float")
 | lst {a:Addr} {xs:List V} (e:H a=some (.lst xs)):TyOf K H (.ref a) (.type "list")
 | frz {a:Addr} {o:Obj} {xs:List V} (e:H a=some (.frz o (.lst xs))):TyOf K H (.ref a) (.type "list")
 | tup {a:Addr} {xs:List V} (e:H a=some (.tup xs)):TyOf K H (.ref a) (.type "tuple")
 | dK {a:Addr} {kvs:List (Key × V)} (e:H a=some (.dK kvs)):TyOf K H (.ref a) (.type "dict")
 | dT {a:Addr} {kvs:List (List Key × V)} (e:H a=some (.dT kvs)):TyOf K H (.ref a) (.type "dict")
 | ins {a C dx:Addr} {fs:List (Str × V)} (e:H a=some (.ins C dx fs)) (cl:Cls K C) (ha:PySem.W.findIn K (.ref C) "__class__"=some (some (.builtin "object.__class__")))
   (hn:PySem.W.specialIn K (.builtin "object.__class__") "__get__"=some (some (.builtin "getset_descriptor.__get__"))) (htk:PySem.W.takesIn K (.builtin "object.__class__")=some true)
   (hm:PySem.W.mroIn K C (.type "object")=some true):TyOf K H (.ref a) (.ref C)
theorem pB {x:V} {u t:Value} (I:Inv X pins σ H s) (rx:RelV x u) (ty:TyOf X.K H x t) (e:PySem.W.kitOne X.K t c=some b) (h:∀ tk,Q (.bool b) { s with toks:=tk }) :
  wpAny (model X.prog X.w) A (call (.builtin "isinstance") [u,c]) Q E s:=by
 cases ty with
 | non=>cases (show u=Value.none from rx); exact PySem.W.kia_one PySem.W.kitx_none I.kIn True.intro e (fun z=>nomatch z) h
 | bl y=>cases (show u=Value.bool y from rx); exact PySem.W.kia_one PySem.W.kitx_bool I.kIn True.intro e (fun z=>nomatch z) h
 | int i=>obtain ⟨t,q⟩:=(show ∃ t,u=Value.int i t from rx); cases q; exact PySem.W.kia_one PySem.W.kitx_int I.kIn True.intro e (fun z=>nomatch z) h
 | str y=>obtain ⟨t,q⟩:=(show ∃ t,u=Value.str y t from rx); cases q; exact PySem.W.kia_one PySem.W.kitx_str I.kIn True.intro e (fun z=>nomatch z) h
 | flt y=>obtain ⟨t,q⟩:=(show ∃ t,u=Value.float y t from rx); cases q; exact PySem.W.kia_one PySem.W.kitx_float I.kIn True.intro e (fun z=>nomatch z) h
 | @lst a xs ea =>
  cases (show u=Value.ref a from rx)
  obtain ⟨_,_,n,_,h1⟩:=(show ObjOk X.prog X.w H s.heap a (.lst xs) from I.hok a _ ea)
  exact PySem.W.kia_one PySem.W.kitx_list I.kIn ⟨_,h1,rfl⟩ e (fun z=>nomatch z) h
 | @frz a ob xs ea =>
  cases (show u=Value.ref a from rx)
  obtain ⟨_,_,_,n,_,h1⟩:=(show ObjOk X.prog X.w H s.heap a (.frz ob (.lst xs)) from I.hok a _ ea)
  exact PySem.W.kia_one PySem.W.kitx_list I.kIn ⟨_,h1,rfl⟩ e (fun z=>nomatch z) h
 | @tup a xs ea =>
  cases (show u=Value.ref a from rx)
  obtain ⟨_,_,_,p⟩:=(show ObjOk X.prog X.w H s.heap a (.tup xs) from I.hok a _ ea)
  obtain ⟨o,h1,h2,_⟩:=p
  exact PySem.W.kia_one PySem.W.kitx_tuple I.kIn ⟨o,h1,h2⟩ e (fun z=>nomatch z) h
 | @dK a kvs ea =>
  cases (show u=Value.ref a from rx)
  obtain ⟨_,_,vs,_,p⟩:=(show ObjOk X.prog X.w H s.heap a (.dK kvs) from I.hok a _ ea)
  obtain ⟨o,es,ep,h1,h2,_⟩:=p
  exact PySem.W.kia_one PySem.W.kitx_dict I.kIn ⟨o,h1,h2.1⟩ e (fun z=>nomatch z) h
 | @dT a kvs ea =>
  cases (show u=Value.ref a from rx)
  obtain ⟨_,_,xs,_,o,es,ep,h1,h2,_⟩:=(show ObjOk X.prog X.w H s.heap a (.dT kvs) from I.hok a _ ea)
  exact PySem.W.kia_one PySem.W.kitx_dict I.kIn ⟨o,h1,h2.1⟩ e (fun z=>nomatch z) h
 | @ins a C dx fs ea cl ha hn htk hm =>
  cases (show u=Value.ref a from rx)
  obtain ⟨mA,O,_⟩:=yt I.hok ea
  obtain ⟨od,J,_⟩:=O.look
  exact PySem.W.kia_one (PySem.W.kitx_own (cl.get _) cl.hd ha hn htk hm) I.kIn J e (fun z=>nomatch z) h
end
end L2
namespace L2
open PySem PySem.Spec PyProof.Rows
structure Room (k:Nat) (A:Around):Prop where
 hd:A.handled=none
 dp:A.depth+3 * k+5 < recursionLimit
 un:A.units+16 * k+200 < cLine
 gd:A.guards=some []
theorem Room.mono {j k:Nat} {A:Around} (r:Room k A) (h:j≤k):Room j A:=⟨r.hd,by have:=r.dp; omega,by have:=r.un; omega,r.gd⟩
theorem Room.deeper {k:Nat} {A:Around} (r:Room (k+1) A) (env:Env):Room k (A.deeper env) :=
 ⟨r.hd,by have:=r.dp; show A.depth+1+3 * k+5 < _; omega,by have:=r.un; show A.units+3+16 * k+200 < _; omega,r.gd⟩
theorem Room.depth {k:Nat} {A:Around} (r:Room k A):A.depth < recursionLimit:=by have:=r.dp; omega
theorem Room.units {k:Nat} {A:Around} (r:Room k A):A.units+64 < cLine:=by have:=r.un; omega
def qt:TA:=fun _ H Q=>Q [] H
def lB (ta:TE) (tr:TA):TA:=fun σ H Q=>ta σ H fun x H1=>tr σ H1 fun xs H2=>Q (x :: xs) H2
section
variable {X:Cx} {e:Expr} {es:List Expr} {te:TE} {t:TA} {pos:Pos}
theorem pa_nil:PA X [] qt:=fun _ _ _ _ H Q I h=>Calls.spliced_nil ⟨[],H,I,.nil,h⟩
theorem gI (ha:PE X e te) (hr:PA X es t) (hs:starEach (e :: es) X.env=(false,eval e X.env) :: starEach es X.env:=by rfl):PA X (e :: es) (lB te t):=by
 intro pos pins s σ H Q I h
 rw [hs]
 show wpAny _ _ (spliced ((false,eval e X.env) :: backTo pos (starEach es X.env))) _ _ s
 refine Calls.spliced_cons (thn (ha pins s σ H _ I h) fun u s1 ⟨x,H1,I1,r1,q1⟩=>?_)
 exact thn (hr pos pins s1 σ H1 _ I1 q1) fun us s2 ⟨xs,H2,I2,r2,q2⟩=>⟨x :: xs,H2,I2,.cons r1 r2,q2⟩
def Bx (t:TA):TE:=fun σ H Q=>t σ H fun xs H1=>xs.length≤sizeLine∧∀ p,H1 p=none→Q (.ref p) (upd H1 p (.tup xs))
def BC (t:TA):TE:=fun σ H Q=>t σ H fun xs H1=>xs.length≤sizeLine∧∀ p,H1 p=none→Q (.ref p) (upd H1 p (.lst xs))
theorem B2 {x1} (h:PA X es t):PE X (.Tuple es x1 pos) (Bx t):=by
 intro pins s σ H Q I hq
 refine wpAny_Tuple_spliced (thn (h pos pins s σ H _ I hq) fun us s1 ⟨xs,H1,I1,r,z,q⟩=>⟨by rw [← r.length]; exact z,?_⟩)
 have hf:H1 s1.heap.objs.size=none:=I1.hok.fresh (Nat.le_refl _)
 refine ⟨.ref s1.heap.objs.size,upd H1 s1.heap.objs.size (.tup xs),I1.laid (t':=s1.toks) (fun b u e=>Heap.get?_push_of_some _ e) (Nat.le_refl _) ?_,rfl,q _ hf⟩
 exact ⟨z,us,r,⟨_,Heap.get?_push_size _ rfl,rfl,_,rfl,rfl⟩⟩
theorem B5 (h:PA X es t):PE X (.List es pos) (BC t):=by
 intro pins s σ H Q I hq
 refine wpAny_List_spliced (thn (h pos pins s σ H _ I hq) fun us s1 ⟨xs,H1,I1,r,z,q⟩=>⟨by rw [← r.length]; exact z,?_⟩)
 have hf:H1 s1.heap.objs.size=none:=I1.hok.fresh (Nat.le_refl _)
 refine ⟨.ref s1.heap.objs.size,upd H1 s1.heap.objs.size (.lst xs),I1.laid (t':=s1.toks) (fun b u e=>Heap.get?_push_of_some _ e) (Nat.le_refl _) ?_,rfl,q _ hf⟩
 exact ⟨z,us,0,r,Heap.get?_push_size _ rfl⟩
end
abbrev Sp:=List V→Hp→VK→XK→Prop
abbrev CXT:=List Env→Hp→Shared→XK→Value→Shared→Prop
structure Env0 (P:Program) (w:World) (K:PySem.W.Frag) (mg:Str→Option Value) (base:Heap) (A:Around) (outer:List Env) (s:Shared) (H:Hp):Prop where
 frames:A.frames=some outer
 mod:Mod K mg base
 bs:∀ b o,base.get? b=some o→s.heap.get? b=some o∧H b=none
 bsz:base.objs.size≤s.heap.objs.size
 funs:s.heap.FunFrames base outer
 frf:∀ b∈frs outer,H b=none
 hok:HOk P w H s.heap
 bare:AllBare s.gens
def CE (outer:List Env) (P:Program) (w:World) (H:Hp) (s:Shared) (Q:VK) (u:Value) (s':Shared):Prop :=
 ∃ v H',s'.os=s.os∧AllBare s'.gens∧Un (frs outer) [] H H' s.heap s'.heap∧HOk P w H' s'.heap∧RelV v u∧Q v H'
def CR (CX:CXT) (outer:List Env) (P:Program) (w:World) (H:Hp) (s:Shared) (Q:VK) (E:XK) (r:Result) (s':Shared):Prop :=
 match r with
 | .ok (.ret u)=>CE outer P w H s Q u s'
 | .ok _=>False
 | .error e=>CX outer H s E e s'
structure FnOk (P:Program) (w:World) (K:PySem.W.Frag) (mg:Str→Option Value) (base:Heap) (CX:CXT) (k:Nat) (f:Addr) (fd:FuncData) (ps:List Str) (sp:Sp):Prop where
 len:∀ vs H Q E,sp vs H Q E→vs.length=ps.length
 run:∀ (A:Around) (outer:List Env) (s:Shared) (H:Hp) (args:Args) (us:List Value) (vs:List V) (Q:VK) (E:XK),Room k A→Env0 P w K mg base A outer s H→BindsTo s fd args (ps.zip us)→Vals vs us→sp vs H Q E →
  codeAny (model P w) A (.call (.ref f) args) (CR CX outer P w H s Q E) s
theorem FnOk.mono {P:Program} {w:World} {K:PySem.W.Frag} {mg:Str→Option Value} {base:Heap} {CX:CXT} {j k:Nat} {f:Addr} {fd:FuncData} {ps:List Str} {sp:Sp} (F:FnOk P w K mg base CX j f fd ps sp) (h:j≤k) :
  FnOk P w K mg base CX k f fd ps sp:=⟨F.len,fun A outer s H args us vs Q E hr=>F.run A outer s H args us vs Q E (hr.mono h)⟩
theorem FnOk.imp {P:Program} {w:World} {K:PySem.W.Frag} {mg:Str→Option Value} {base:Heap} {CX:CXT} {k:Nat} {f:Addr} {fd:FuncData} {ps:List Str} {sp sp':Sp} (F:FnOk P w K mg base CX k f fd ps sp)
  (h:∀ vs H Q E,sp' vs H Q E→sp vs H Q E):FnOk P w K mg base CX k f fd ps sp' :=
 ⟨fun vs H Q E q=>F.len vs H Q E (h _ _ _ _ q),fun A outer s H args us vs Q E hr he hb hv hs=>F.run A outer s H args us vs Q E hr he hb hv (h _ _ _ _ hs)⟩
section
variable {X:Cx} {pins:List (Addr × Obj)} {σ:St} {H:Hp} {s s':Shared}
theorem Inv.env0 (I:Inv X pins σ H s):Env0 X.prog X.w X.K X.mg X.base X.A X.stack s H :=
 ⟨I.ok.frames,I.ok.mod,I.bs,Nat.le_trans I.ok.bsz I.sz,I.stack,I.stkFree,I.hok,I.bare⟩
theorem Inv.after {Q:VK} {u:Value} (I:Inv X pins σ H s) (h:CE X.stack X.prog X.w H s Q u s'):EP X pins σ Q u s':=by
 obtain ⟨v,H',os,bare,un,hok,r,q⟩:=h
 obtain ⟨hh,g,d,t,os'⟩:=s'
 obtain rfl:os'=s.os:=os
 exact ⟨v,H',I.call (h':=hh) (g':=g) (d':=d) (t':=t) (ch:=[]) un hok bare (fun b z=>absurd z (by simp)),r,q⟩
end
def nR (sp:Sp) (dvs:List V) (E:XK) (t:TA):TE:=fun σ H Q=>t σ H fun vs H1=>sp (vs++dvs) H1 Q E
def Binds (K:PySem.W.Frag) (fd:FuncData) (ps:List Str) (ds:List Value):Prop :=
 ∀ (s:Shared) (us:List Value),K.In s.heap→(us++ds).length=ps.length→BindsTo s fd ⟨us,[]⟩ (ps.zip (us++ds))
theorem Binds.all {K:PySem.W.Frag} {fd:FuncData} {ps:List Str} (h:∀ us:List Value,us.length=ps.length→bindArgs fd ⟨us,[]⟩=pure (ps.zip us)):Binds K fd ps []:=fun s us _ hl=>by
 rw [List.append_nil] at hl ⊢
 exact .of_eq (h us hl)
def mX (CX:CXT) (X:Cx) (E:XK):Prop:=∀ (pins:List (Addr × Obj)) (σ:St) (H:Hp) (s:Shared) (e:Value) (s':Shared),Inv X pins σ H s→CX X.stack H s E e s'→X.xe e s'
section
variable {X:Cx} {CX:CXT} {k:Nat} {f C:Addr} {fd:FuncData} {ps:List Str} {sp:Sp} {dvs:List V} {ds:List Value} {E:XK} {x m:Str} {p pos apos:Pos} {e o:Expr} {es:List Expr} {ta:TE} {t:TA}
theorem BJ {pins:List (Addr × Obj)} {σ:St} {H:Hp} {s:Shared} {Q:VK} {us:List Value} {vs:List V} (F:FnOk X.prog X.w X.K X.mg X.base CX k f fd ps sp) (hr:Room k X.A) (hb:Binds X.K fd ps ds) (hd:Vals dvs ds) (hx:mX CX X E)
  (I:Inv X pins σ H s) (r:Vals vs us) (h:sp (vs++dvs) H Q E):wpAny (model X.prog X.w) X.A (call (.ref f) us) (EP X pins σ Q) X.xe s:=by
 have r2:Vals (vs++dvs) (us++ds):=r.append hd
 have hl:(us++ds).length=ps.length:=by rw [← r2.length]; exact F.len _ _ _ _ h
 refine wpAny_call (codeAny_mono (F.run X.A X.stack s H ⟨us,[]⟩ (us++ds) (vs++dvs) Q E hr I.env0 (hb s us I.kIn hl) r2 h) fun r s' hq=>?_)
 cases r with
 | error e=>exact hx pins σ H s e s' I hq
 | ok fl =>
  cases fl with
  | ret u=>exact I.after hq
  | next=>exact False.elim hq
  | brk=>exact False.elim hq
  | cont=>exact False.elim hq
theorem yb (F:FnOk X.prog X.w X.K X.mg X.base CX k f fd ps sp) (hr:Room k X.A) (hg:Gl X x) (hm:X.mg x=some (.ref f)) (hk:PySem.W.keepIn X.K (.ref f)=true) (hb:Binds X.K fd ps ds) (hd:Vals dvs ds) (hx:mX CX X E)
  (ha:PA X (e :: es) t) (hdb:(x == ("__debug__" : Str))=false:=by decide) (he:starEach (e :: es) X.env=(false,eval e X.env) :: starEach es X.env:=by rfl) (hpl:(backTo pos (starEach es X.env)).any (·.1)=false:=by rfl) :
  PE X (.Call (.Name x p) (e :: es) [] pos) (nR sp dvs E t):=by
 intro pins s σ H Q I h
 refine wpAny_Call_Name_kw (yo I hg hm ?_ hdb)
 refine PySem.W.callWith_K (h₀:=X.base) I.ok.mod.kin hk (thn (ha pos pins s σ H _ I h) fun us s1 ⟨vs,H1,I1,r,q⟩=>⟨I1.kIn,?_⟩) he hpl
 exact BJ F hr hb hd hx I1 r q
end
section
variable {X:Cx} {CX:CXT} {k:Nat} {f C:Addr} {fd:FuncData} {ps ks:List Str} {sp:Sp} {E:XK} {x m:Str} {p pos apos kpos:Pos} {e o:Expr} {es:List Expr} {kws:List Keyword} {te ta:TE} {t tk:TA} {nm:Option Str}
variable {g:List Value→List Value→List Value} {gV:List V→List V→List V}
end
structure FnScope (N P:List Str) (sc:Scope):Prop where
 kind:sc.kind=.function
 co:sc.isCoroutine=false
 gen:sc.isGenerator=false
 nd:N.Nodup
 pre:N.take P.length=P
 par:∀ x∈P,sc.names.lookup x=some .local∨sc.names.lookup x=some .cell
 nofree:∀ y∈sc.names,y.2≠.free
theorem lb {kindOf:Str→Option NameKind} {x:Str}:∀ {binds:List (Str × Value)} {m:Str→Option Value},(∀ v,(x,v) ∉ binds)→bindL kindOf binds m x=m x
 | [],_,_=>rfl
 | (n,v) :: r,m,h=>by
  unfold bindL
  rw [lb fun w hw=>h w (List.mem_cons_of_mem _ hw)]
  split
  ·have:x≠n:=by rintro rfl; exact h v List.mem_cons_self
   simp [this]
  ·rfl
theorem lf {kindOf:Str→Option NameKind} {x:Str}:∀ {binds:List (Str × Value)} {m:Str→Option Value},(∀ v,(x,v) ∉ binds)→bindC kindOf binds m x=m x
 | [],_,_=>rfl
 | (n,v) :: r,m,h=>by
  unfold bindC
  rw [lf fun w hw=>h w (List.mem_cons_of_mem _ hw)]
  split
  ·rfl
  ·have:x≠n:=by rintro rfl; exact h v List.mem_cons_self
   simp [this]
theorem ld {kindOf:Str→Option NameKind} {x:Str} {v:Value}:∀ {P:List Str} {vs:List Value} {i:Nat} {m:Str→Option Value},P.Nodup→P[i]?=some x→vs[i]?=some v→kindOf x=some .local →
  bindL kindOf (P.zip vs) m x=some v
 | [],_,_,_,_,h,_,_=>by simp at h
 | _ :: _,[],_,_,_,_,h,_=>by simp at h
 | p :: P,w :: vs,0,m,nd,h1,h2,hk=>by
  simp at h1 h2; subst h1; subst h2
  show bindL kindOf ((p,w) :: P.zip vs) m p=_
  unfold bindL
  rw [lb fun v hv=>(List.nodup_cons.mp nd).1 (List.of_mem_zip hv).1,if_pos hk]
  simp
 | p :: P,w :: vs,i+1,m,nd,h1,h2,hk=>by
  show bindL kindOf ((p,w) :: P.zip vs) m x=_
  unfold bindL
  exact ld (i:=i) (List.nodup_cons.mp nd).2 (by simpa using h1) (by simpa using h2) hk
theorem lh {kindOf:Str→Option NameKind} {x:Str} {v:Value}:∀ {P:List Str} {vs:List Value} {i:Nat} {m:Str→Option Value},P.Nodup→P[i]?=some x→vs[i]?=some v→kindOf x≠some .local →
  bindC kindOf (P.zip vs) m x=some v
 | [],_,_,_,_,h,_,_=>by simp at h
 | _ :: _,[],_,_,_,_,h,_=>by simp at h
 | p :: P,w :: vs,0,m,nd,h1,h2,hk=>by
  simp at h1 h2; subst h1; subst h2
  show bindC kindOf ((p,w) :: P.zip vs) m p=_
  unfold bindC
  rw [lf fun v hv=>(List.nodup_cons.mp nd).1 (List.of_mem_zip hv).1,if_neg hk]
  simp
 | p :: P,w :: vs,i+1,m,nd,h1,h2,hk=>by
  show bindC kindOf ((p,w) :: P.zip vs) m x=_
  unfold bindC
  exact lh (i:=i) (List.nodup_cons.mp nd).2 (by simpa using h1) (by simpa using h2) hk
def de (N:List Str) (vs:List V):St:=vs.map some++List.replicate (N.length - vs.length) none
def jM (CX:CXT) (P:Program) (w:World) (K:PySem.W.Frag) (mg:Str→Option Value) (base:Heap) (N:List Str) (qual:Str) (scope:Scope) (f:Addr) (cd:Value) (A:Around) (outer:List Env) (s:Shared) (H:Hp) (E:XK):Cx where
 prog:=P
 w:=w
 K:=K
 mg:=mg
 base:=base
 A:=A.deeper (envOfC qual scope s.heap.objs.size f cd)
 N:=N
 s₀:=s
 H₀:=H
 env:=envOfC qual scope s.heap.objs.size f cd
 outer:=outer
 stack:=envOfC qual scope s.heap.objs.size f cd :: outer
 ex:=[]
 calm:=true
 fn:=fun _=>true
 pn:=[]
 xe:=fun e s'=>wpAny (model P w) (A.deeper (envOfC qual scope s.heap.objs.size f cd)) (leaving (envOfC qual scope s.heap.objs.size f cd) e) (fun _ s''=>CX outer H s E e s'') (fun e' s''=>CX outer H s E e' s'') s'
theorem mT {sc:Scope} {n:Nat} {x:Str} (h:sc.names.lookup x=some .cell):∃ c,(cellsFrom n sc.names []).lookup x=some c:=by
 have q:=PySem.W.cellsFrom_some sc.names n [] (.inl h)
 exact Option.isSome_iff_exists.mp q
theorem pC {CX:CXT} {P:Program} {w:World} {K:PySem.W.Frag} {mg:Str→Option Value} {base:Heap} {N ps:List Str} {qual:Str} {scope:Scope} {f:Addr} {cd:Value} {A:Around} {outer:List Env} {s s1:Shared} {H:Hp} {E:XK} {us:List Value} {vs:List V}
  (S:FnScope N ps scope) (hd:A.handled=none) (e0:Env0 P w K mg base A outer s H) (hl:vs.length=ps.length) (r:Vals vs us)
  (x:InCallC s s.heap.objs.size (bindL (envOfC qual scope s.heap.objs.size f cd).kindOf (ps.zip us) fun _=>none) (cellsFrom (s.heap.objs.size+1) scope.names []) (bindC (envOfC qual scope s.heap.objs.size f cd).kindOf (ps.zip us) fun _=>none) s1) :
  Inv (jM CX P w K mg base N qual scope f cd A outer s H E) [] (de N vs) H s1:=by
 have hpl:ps.length≤N.length:=by have:=congrArg List.length S.pre; rw [List.length_take] at this; omega
 obtain ⟨h1,tk,rfl,hk⟩:=x.done
 have noA:∀ b:Addr,b ∉ (jM CX P w K mg base N qual scope f cd A outer s H E).ex:=fun b z=>absurd (show b∈([]:List Addr) from z) (by simp)
 refine ⟨⟨e0.mod,S.kind,rfl,rfl,Nat.le_refl _,fun y z c h1 h2=>?_,fun y hy=>?_,fun y c _ h=>?_,fun _=>hd,Around.frames_deeper e0.frames,.inr ⟨rfl,rfl⟩,fun b z=>absurd z (noA b),e0.bs,e0.bsz,fun b _ _=>noA b,fun b z=>absurd z (noA b),e0.funs,e0.frf⟩,
  rfl,e0.bare,Un.kept hk,⟨_,x.toInCall.ns,fun i y v h1 h2 h3=>?_⟩,fun y c h=>⟨_,x.cell y c h⟩,e0.hok.fresh (Nat.le_refl _),fun y c h=>?_,fun p hp=>absurd (show p∈([]:List (Addr × Obj)) from hp) (by simp),e0.hok.kept hk,?_⟩
 ·exact name_of_addr x.apart (PySem.mem_of_lookup h1) (PySem.mem_of_lookup h2)
 ·have hy:scope.names.lookup y=some .cell∨scope.names.lookup y=some .free:=hy
  rcases hy with hy | hy
  ·exact mT hy
  ·exact absurd rfl (S.nofree _ (PySem.mem_of_lookup hy))
 ·exact Nat.le_of_lt (x.above y c (PySem.mem_of_lookup h))
 ·have hi:i < vs.length:=by
   unfold de at h2
   by_cases hi:i < vs.length
   ·exact hi
   ·rw [List.getElem?_append_right (by simpa using hi)] at h2
    rw [List.getElem?_replicate] at h2
    split at h2 <;> cases h2
  have ha:vs[i]?=some v:=by
   unfold de at h2
   rw [List.getElem?_append_left (by simpa using hi),List.getElem?_map] at h2
   cases e:vs[i]? with
   | none=>rw [e] at h2; cases h2
   | some a=>rw [e] at h2; cases h2; rfl
  obtain ⟨u,hu,rv⟩:=r.get ha
  have hp:ps[i]?=some y:=by
   rw [← S.pre,List.getElem?_take_of_lt (by omega)]; exact h1
  have ndP:ps.Nodup:=by rw [← S.pre]; exact S.nd.sublist (List.take_sublist _ _)
  refine ⟨u,rv,?_⟩
  rcases S.par y (List.mem_of_getElem? hp) with k | k
  ·exact .inl ⟨k,ld ndP hp hu k⟩
  ·obtain ⟨c,e⟩:=mT (n:=s.heap.objs.size+1) k
   refine .inr ⟨.inl k,c,e,?_⟩
   have q:=x.cell y c e
   rw [lh ndP hp hu (by show scope.names.lookup y≠_; rw [k]; decide)] at q
   exact q
 ·exact e0.hok.fresh (Nat.le_of_lt (x.above y c (PySem.mem_of_lookup h)))
 ·unfold de
  show _=N.length
  rw [List.length_append,List.length_map,List.length_replicate]
  omega
theorem Ee {CX:CXT} {P:Program} {w:World} {K:PySem.W.Frag} {mg:Str→Option Value} {base:Heap} {k:Nat} {f:Addr} {name qual:Str} {params:Arguments} {body:List Stmt} {scope:Scope} {dV kV doc pm cdv ct oc:Value} {an od:Option Addr}
  {osl:Array (Option Value)} {N ps:List Str} {sp:Sp} (lk:K.lookup f=some ⟨oc,od,.func (PySem.W.fnOf name qual params body scope dV kV doc pm an cdv ct),osl⟩) (hcd:PySem.W.codeIn K cdv qual=true) (S:FnScope N ps scope)
  (len:∀ vs H Q E,sp vs H Q E→vs.length=ps.length)
  (hbody:∀ (A:Around) (outer:List Env) (s:Shared) (H:Hp) (vs:List V) (Q:VK) (E:XK),Room k (A.deeper (envOfC qual scope s.heap.objs.size f cdv))→sp vs H Q E →
   ∃ t,PSs (jM CX P w K mg base N qual scope f cdv A outer s H E) body t∧t { nx:=fun _ H'=>Q .non H',rt:=Q } (de N vs) H) :
  FnOk P w K mg base CX (k+1) f (PySem.W.fnOf name qual params body scope dV kV doc pm an cdv ct) ps sp:=by
 refine ⟨len,fun A outer s H args us vs Q E hr e0 hb r hsp=>?_⟩
 have hl:=len _ _ _ _ hsp
 have KX:K.In s.heap:=e0.mod.kin.keeps fun b o e=>(e0.bs b o e).1
 have lim:s.heap.NoLimit:=e0.mod.nolimit.keeps fun b o e=>(e0.bs b o e).1
 have hkind:∀ y∈ps.zip us,scope.names.lookup y.1=some .local∨(scope.names.lookup y.1=some .cell∧((cellsFrom (s.heap.objs.size+1) scope.names []).lookup y.1).isSome=true):=fun ⟨n,v⟩ hy=>by
  rcases S.par n (List.of_mem_zip hy).1 with q | q
  ·exact .inl q
  ·exact .inr ⟨q,PySem.W.cellsFrom_some _ _ _ (.inl q)⟩
 refine codeAny_call_function hr.depth (KX _ _ lk) rfl S.co S.gen rfl (PySem.W.codeRec_of KX hcd) (hb _ _ _ _ ?_)
 refine wpAny_newFunctionEnv_cells S.kind hkind fun env he s1 x=>?_
 subst he
 refine ⟨lim.keeps x.toInCall.keep,codeAny_func ?_⟩
 obtain ⟨t,ht,hq⟩:=hbody A outer s H vs Q E (hr.deeper _) hsp
 have I:Inv (jM CX P w K mg base N qual scope f cdv A outer s H E) [] (de N vs) H s1:=pC S hr.hd e0 hl r x
 refine wpAny_mono (ht [] s1 (de N vs) H _ I hq) (fun fl s' hs=>?_) fun e s' hs=>hs
 have fin:∀ {σ':St} {H':Hp} {v:V} {u:Value},Inv (jM CX P w K mg base N qual scope f cdv A outer s H E) [] σ' H' s'→RelV v u→Q v H'→CE outer P w H s Q u s' :=
  fun {σ' H' v u} J rv q=>⟨v,H',J.os,J.bare,J.base,J.hok,rv,q⟩
 cases fl with
 | ret u =>
  obtain ⟨v,σ',H',J,rv,q⟩:=hs
  exact fin J rv q
 | next =>
  obtain ⟨σ',H',J,q⟩:=hs
  exact fin (v:=V.non) (u:=Value.none) J rfl q
 | brk =>
  obtain ⟨_,_,_,q⟩:=hs
  exact False.elim q
 | cont =>
  obtain ⟨_,_,_,q⟩:=hs
  exact False.elim q
end L2
namespace L2
open PySem PySem.Spec PyProof.Rows
section
variable {X:Cx} {x:Str} {p pos:Pos} {e:Expr} {es:List Expr} {t:TA} {id T:String} {r:List V→Hp→VK→Prop}
def tCB (r:List V→Hp→VK→Prop) (t:TA):TE:=fun σ H Q=>t σ H fun vs H1=>r vs H1 Q
theorem lZ (hc:CallR X (.builtin id) r) (hg:Gl X x) (hm:X.mg x=none) (hv:bootBuiltins x=some (.builtin id)) (ha:PA X (e :: es) t) (hn:x≠"__name__":=by decide) (hdb:(x == ("__debug__" : Str))=false:=by decide)
  (he:starEach (e :: es) X.env=(false,eval e X.env) :: starEach es X.env:=by rfl) (hpl:(backTo pos (starEach es X.env)).any (·.1)=false:=by rfl):PE X (.Call (.Name x p) (e :: es) [] pos) (tCB r t):=by
 intro pins s σ H Q I h
 refine wpAny_Call_Name_kw (gM I hg hm hv ?_ hn hdb)
 exact PyProof.Rows.callWith_builtin1 (thn (ha pos pins s σ H _ I h) fun us s1 ⟨vs,H1,I1,r1,q1⟩=>hc pins s1 σ H1 vs us Q I1 r1 q1) he hpl
theorem pc (hc:CallR X (.type T) r) (hg:Gl X x) (hm:X.mg x=none) (hv:bootBuiltins x=some (.type T)) (ha:PA X (e :: es) t) (hn:x≠"__name__":=by decide) (hdb:(x == ("__debug__" : Str))=false:=by decide)
  (he:starEach (e :: es) X.env=(false,eval e X.env) :: starEach es X.env:=by rfl) (hpl:(backTo pos (starEach es X.env)).any (·.1)=false:=by rfl):PE X (.Call (.Name x p) (e :: es) [] pos) (tCB r t):=by
 intro pins s σ H Q I h
 refine wpAny_Call_Name_kw (gM I hg hm hv ?_ hn hdb)
 exact PyProof.Rows.callWith_type1 (thn (ha pos pins s σ H _ I h) fun us s1 ⟨vs,H1,I1,r1,q1⟩=>hc pins s1 σ H1 vs us Q I1 r1 q1) he hpl
end
end L2
namespace HT
open PySem PyProof.Rows
section
open PySem.SeqAt
open PySem.AutoSeq1 (wpAny_loadPart')
open PySem.MeetsSeq PySem.MeetsSeq2 PySem.MeetsSeq3
end
section
variable {prog:Program} {w:World} {A:Around} {E:Value→Shared→Prop} {s:Shared}
def sIx (n d:Nat):Option Int→Nat
 | none=>d
 | some v=>if v < 0 then (v+(n:Int)).toNat else min v.toNat n
theorem sIx_none (n d:Nat):sIx n d none=d:=rfl
theorem sIx_nat (n d k:Nat):sIx n d (some (k:Int))=min k n:=by
 show (if (k:Int) < 0 then ((k:Int)+(n:Int)).toNat else min (k:Int).toNat n)=min k n
 rw [if_neg (by omega),Int.toNat_natCast]
end
end HT
namespace L2
open PySem PySem.Spec PyProof.Rows
abbrev TO:=St→Hp→(Option Int→Hp→Prop)→Prop
def PO (X:Cx) (e:Option Expr) (t:TO):Prop :=
 ∀ (pins:List (Addr × Obj)) (s:Shared) (σ:St) (H:Hp) (Q:Option Int→Hp→Prop),Inv X pins σ H s→t σ H Q →
  wpAny (model X.prog X.w) X.A (evalPart e X.env) (fun u s'=>∃ o H',Inv X pins σ H' s'∧IsPart u o∧Q o H') X.xe s
def xG:TO:=fun _ H Q=>Q none H
def DK (t:TE):TO:=fun σ H Q=>t σ H fun x H1=>∃ i,x=.int i∧Q (some i) H1
section
variable {X:Cx} {e:Expr} {te:TE} {lo hi:Option Expr} {tl th:TO} {pos p2:Pos}
theorem po_none:PO X none xG:=by
 intro pins s σ H Q I h
 rw [evalPart_none]
 exact wpAny_pure ⟨none,H,I,.none,h⟩
theorem xV (h:PE X e te):PO X (some e) (DK te):=by
 intro pins s σ H Q I hw
 rw [evalPart_some]
 refine thn (h pins s σ H _ I hw) fun u s1 ⟨x,H1,I1,r1,q1⟩=>?_
 obtain ⟨i,rfl,q⟩:=q1
 obtain ⟨t,rfl⟩:=r1
 exact ⟨some i,H1,I1,.int i t,q⟩
def SlR (X:Cx) (r:V→Option Int→Option Int→Hp→VK→Prop):Prop :=
 ∀ (pins:List (Addr × Obj)) (s:Shared) (σ:St) (H:Hp) (x:V) (v vl vu:Value) (lo hi:Option Int) (sl:Addr) (Q:VK),Inv X pins σ H s→RelV x v→s.heap.IsSliceOf sl vl vu .none→IsPart vl lo→IsPart vu hi→r x lo hi H Q →
  ∃ T id,typeLookup (.type T) "__getitem__"=pure (some (.builtin id))∧s.TypeIs v T∧wpAny (model X.prog X.w) X.A (getItem v (.ref sl)) (EP X pins σ Q) X.xe s
def tSl (r:V→Option Int→Option Int→Hp→VK→Prop) (te:TE) (tl th:TO):TE:=fun σ H Q=>te σ H fun x H1=>tl σ H1 fun l H2=>th σ H2 fun u H3=>r x l u H3 Q
theorem qB {r:V→Option Int→Option Int→Hp→VK→Prop} (hr:SlR X r) (he:PE X e te) (hl:PO X lo tl) (hu:PO X hi th):PE X (.Subscript e (.Slice lo hi none p2) pos) (tSl r te tl th):=by
 intro pins s σ H Q I h
 refine Subscript_ (thn (he pins s σ H _ I h) fun v s1 ⟨x,H1,I1,r1,q1⟩=>?_)
 refine wpAny_Slice (thn (hl pins s1 σ H1 _ I1 q1) fun vl s2 ⟨l,H2,I2,pl,q2⟩=>thn (hu pins s2 σ H2 _ I2 q2) fun vu s3 ⟨u,H3,I3,pu,q3⟩=>?_)
 rw [evalPart_none]
 refine wpAny_pure ?_
 have I4:Inv X pins σ H3 { s3 with heap:=s3.heap.push { cls:=.type "slice",data:=.fields #[vl,vu,.none] } }:=I3.kept (t':=s3.toks) fun b ob q=>Heap.get?_push_of_some _ q
 obtain ⟨T,id,hT,ht,hg⟩:=hr pins { s3 with heap:=s3.heap.push { cls:=.type "slice",data:=.fields #[vl,vu,.none] } } σ H3 x v vl vu l u s3.heap.objs.size Q I4 r1 (Heap.IsSliceOf.new ..) pl pu q3
 show wpAny (model X.prog X.w) X.A (subscriptTail e (.Slice lo hi none p2) v (.ref s3.heap.objs.size)) (EP X pins σ Q) X.xe { s3 with heap:=s3.heap.push { cls:=.type "slice",data:=.fields #[vl,vu,.none] } }
 exact tail_any (ops:=[.ref s3.heap.objs.size,v]) ht hT hg (by with_unfolding_all rfl)
def gx (xs:List V) (lo hi:Option Int):List V:=(xs.drop (HT.sIx xs.length 0 lo)).take (HT.sIx xs.length xs.length hi - HT.sIx xs.length 0 lo)
theorem nb (xs:List V) (lo hi:Option Int):(gx xs lo hi).length≤xs.length:=by
 unfold gx
 rw [List.length_take,List.length_drop]
 omega
end
end L2
namespace L2
open PySem PySem.Spec PyProof.Rows
def ixN (n:Nat) (i:Int):Option Nat:=if 0≤i then (if i < n then some i.toNat else none) else if -(n:Int)≤i then some (i+n).toNat else none
def atI {α:Type} (xs:List α) (i:Int):Option α:=(ixN xs.length i).bind fun j=>xs[j]?
theorem nE {n:Nat} {i:Int} {j:Nat} (h:ixN n i=some j):seqIndex? i n=some j∧j < n∧-(n:Int)≤i∧i < n:=by
 unfold ixN at h
 by_cases h0:0≤i
 ·rw [if_pos h0] at h
  by_cases h1:i < n
  ·rw [if_pos h1] at h
   have e:i.toNat=j:=Option.some.inj h
   exact ⟨by rw [seqIndex_of h0 h1,e],by omega,by omega,h1⟩
  ·rw [if_neg h1] at h; cases h
 ·rw [if_neg h0] at h
  by_cases h1:-(n:Int)≤i
  ·rw [if_pos h1] at h
   have e:(i+n).toNat=j:=Option.some.inj h
   exact ⟨by rw [seqIndex_neg (by omega) h1,e],by omega,h1,by omega⟩
  ·rw [if_neg h1] at h; cases h
theorem kH {α:Type} {xs:List α} {i:Int} {v:α} (h:atI xs i=some v):∃ j,seqIndex? i xs.length=some j∧xs[j]?=some v∧j < xs.length∧-(xs.length:Int)≤i∧i < xs.length:=by
 unfold atI at h
 cases e:ixN xs.length i with
 | none=>rw [e] at h; cases h
 | some j =>
  rw [e] at h
  obtain ⟨h1,h2,h3,h4⟩:=nE e
  exact ⟨j,h1,h,h2,h3,h4⟩
def eR (b:Expr):Prop:=∀ o i,subscripted b false o i=operate [o,i] (getItem o i)
def IxR (X:Cx) (r:R2):Prop :=
 ∀ (value slice:Expr) (pins:List (Addr × Obj)) (s:Shared) (σ:St) (H:Hp) (x y:V) (v u:Value) (Q:VK),Inv X pins σ H s→RelV x v→RelV y u→r x y H Q →
  subscripted slice false v u=operate [v,u] (getItem v u)→wpAny (model X.prog X.w) X.A (subscriptTail value slice v u) (EP X pins σ Q) X.xe s
def MtR (X:Cx) (id:String) (r:V→List V→Hp→VK→Prop):Prop :=
 ∀ (pins:List (Addr × Obj)) (s:Shared) (σ:St) (H:Hp) (x:V) (xs:List V) (v:Value) (us:List Value) (Q:VK),Inv X pins σ H s→RelV x v→Vals xs us→r x xs H Q →
  wpAny (model X.prog X.w) X.A (call (.builtin id) (v :: us)) (EP X pins σ Q) X.xe s
section
variable {X:Cx} {a b:Expr} {ta tb:TE} {pos:Pos}
theorem IxR.or {r r':R2} (h:IxR X r) (h':IxR X r'):IxR X (fun x y H Q=>r x y H Q∨r' x y H Q):=by
 intro value slice pins s σ H x y v u Q I rx ry q hs
 rcases q with q | q
 ·exact h value slice pins s σ H x y v u Q I rx ry q hs
 ·exact h' value slice pins s σ H x y v u Q I rx ry q hs
theorem nV {r:R2} (hr:IxR X r) (ha:PE X a ta) (hb:PE X b tb) (hs:eR b):PE X (.Subscript a b pos) (tOp r ta tb):=by
 intro pins s σ H Q I h
 exact Subscript_ (rF ha hb I h fun v u s2 x y H2 I2 rx ry q=>hr a b pins s2 σ H2 x y v u Q I2 rx ry q (hs _ _))
def nU (K:PySem.W.Frag):R2:=fun x y H Q=>∃ p xs i v,x=.ref p∧y=.int i∧SqL K H p xs∧atI xs i=some v∧Q v H
def BS (K:PySem.W.Frag):R2:=fun x y H Q=>∃ p xs i v,x=.ref p∧y=.int i∧SqT K H p xs∧atI xs i=some v∧Q v H
def BT:R2:=fun x y H Q=>∃ z i c,x=.str z∧y=.int i∧z.length≤sizeLine∧atI z.cps.toList i=some c∧Q (.str ⟨#[c]⟩) H
theorem ix_list:IxR X (nU X.K):=by
 intro value slice pins s σ H x y v u Q I rx ry h hs
 obtain ⟨p,xs,i,z,rfl,rfl,hq,he,q⟩:=h
 cases rx
 obtain ⟨t,rfl⟩:=ry
 obtain ⟨its,r,pl,hz⟩:=I.list hq
 obtain ⟨j,h1,h2,h3,h4,h5⟩:=kH he
 obtain ⟨w,ew,rw'⟩:=r.get h2
 have hl:=r.length
 have hn:=gL
 have fin:EP X pins σ Q w s:=⟨z,H,I,rw',q⟩
 by_cases h0:0≤i
 ·have hj:i.toNat=j:=by
   rw [seqIndex_of h0 h5] at h1
   exact Option.some.inj h1
  exact item_listR pl.isList h0 (by omega) (by rw [hj]; simpa using ew) fin hs
 ·have hj:(i+(its.toArray.size:Int)).toNat=j:=by
   rw [seqIndex_neg (by omega) h4] at h1
   rw [List.size_toArray,← hl]
   exact Option.some.inj h1
  exact subscriptTail_builtinR (x:=w) pl.isList.typeIs slot_list_getitem.lookup
   (wpAny_getItem_list_neg (Q:=fun r s'=>r=w∧EP X pins σ Q r s') pl.isList (by omega) (by rw [List.size_toArray] <;> omega) (by omega) (by rw [hj]; simpa using ew) ⟨rfl,fin⟩) hs
theorem ix_tup:IxR X (BS X.K):=by
 intro value slice pins s σ H x y v u Q I rx ry h hs
 obtain ⟨p,xs,i,z,rfl,rfl,hq,he,q⟩:=h
 cases rx
 obtain ⟨t,rfl⟩:=ry
 obtain ⟨its,r,pl,hz⟩:=I.tuple hq
 obtain ⟨j,h1,h2,h3,h4,h5⟩:=kH he
 obtain ⟨w,ew,rw'⟩:=r.get h2
 have hl:=r.length
 have hn:=gL
 have fin:EP X pins σ Q w s:=⟨z,H,I,rw',q⟩
 exact subscriptTail_builtinR (x:=w) pl.typeIs slot_tuple_getitem.lookup
  (getItem_tuple (j:=j) (Q:=fun r s'=>r=w∧EP X pins σ Q r s') pl (by omega) (by omega) (by rw [List.size_toArray,← hl]; exact h1) (by simpa using ew) ⟨rfl,fin⟩) hs
theorem Cy:IxR X BT:=by
 intro value slice pins s σ H x y v u Q I rx ry h hs
 obtain ⟨z,i,c,rfl,rfl,hz,he,q⟩:=h
 obtain ⟨t,rfl⟩:=rx
 obtain ⟨t',rfl⟩:=ry
 obtain ⟨j,h1,h2,h3,h4,h5⟩:=kH he
 have hl:z.cps.toList.length=z.length:=by simp [Str.length]
 rw [hl] at h1 h4 h5
 have hn:=gL
 exact tail_any (typeIs_str s z t) slot_str_getitem.lookup (getItem_str (c:=c) (by
  have e1:decide (i < -(2 ^ 63:Int))=false:=decide_eq_false (by omega)
  have e2:decide (i ≥ 2 ^ 63)=false:=decide_eq_false (by omega)
  rw [e1,e2,Bool.or_false]) (by rw [h1]; simpa using h2) ⟨.str ⟨#[c]⟩,H,I.tok _,⟨_,rfl⟩,q⟩) hs
def rIx (K:PySem.W.Frag):R2:=fun x y H Q=>nU K x y H Q∨BS K x y H Q∨BT x y H Q
theorem ix_seq:IxR X (rIx X.K):=ix_list.or (ix_tup.or Cy)
theorem oe (its:List Value) (n j:Nat) (u:Value):Obj.mapSeq (·.setIfInBounds j u) { cls:=.type "list",data:=.seq its.toArray n }={ cls:=.type "list",data:=.seq (its.set j u).toArray n }:=by
 simp [Obj.mapSeq]
theorem Inv.lst {pins:List (Addr × Obj)} {σ:St} {H:Hp} {s:Shared} {p:Addr} {xs:List V} (I:Inv X pins σ H s) (h:H p=some (.lst xs)) :
  ∃ (its:List Value) (n:Nat),Vals xs its∧s.heap.get? p=some { cls:=.type "list",data:=.seq its.toArray n }∧xs.length≤sizeLine:=by
 obtain ⟨z,its,n,r,e⟩:=I.hok p _ h
 exact ⟨its,n,r,e,z⟩
theorem Inv.lstUpd {pins:List (Addr × Obj)} {σ:St} {H:Hp} {s:Shared} {p:Addr} {xs ys:List V} {its its':List Value} {n n':Nat} {f:Obj→Obj} (I:Inv X pins σ H s) (h:H p=some (.lst xs))
  (ho:s.heap.get? p=some { cls:=.type "list",data:=.seq its.toArray n }) (hf:f { cls:=.type "list",data:=.seq its.toArray n }={ cls:=.type "list",data:=.seq its'.toArray n' }) (r:Vals ys its') (hz:ys.length≤sizeLine) (t:Nat) :
  Inv X pins σ (upd H p (.lst ys)) { s with heap:=s.heap.update p f,toks:=t }:=by
 have e:(s.heap.update p f).get? p=some { cls:=.type "list",data:=.seq its'.toArray n' }:=by
  rw [Heap.get?_update_self f ho (by rw [hf] <;> rfl),hf]
 refine I.write (x:=p) (e:=p) (by rw [h]; trivial) (.inl rfl) (fun b u hb q=>(Heap.get?_update_other _ _ (Ne.symm hb)).trans q) ⟨_,e⟩ ?_
 exact ⟨hz,its',n',r,e⟩
def lC:V→V→V→Hp→(Hp→Prop)→Prop:=fun o i v H Q=>∃ p xs k j,o=.ref p∧i=.int k∧H p=some (.lst xs)∧ixN xs.length k=some j∧Q (upd H p (.lst (xs.set j v)))
theorem jA:DG X lC:=by
 intro pins s σ H o i v ov iv u Q I ro ri rv h
 obtain ⟨p,xs,k,j,rfl,rfl,hp,hj,q⟩:=h
 cases ro
 obtain ⟨t,rfl⟩:=ri
 obtain ⟨its,n,r,ho,hz⟩:=I.lst hp
 obtain ⟨h1,h2,h3,h4⟩:=nE hj
 have hl:=r.length
 have hn:=gL
 have I':Inv X pins σ (upd H p (.lst (xs.set j v))) { s with heap:=s.heap.update p (Obj.mapSeq (·.setIfInBounds j u)) } :=
  I.lstUpd hp ho (oe its n j u) (r.set rv j) (by rw [List.length_set]; exact hz) s.toks
 by_cases h0:0≤k
 ·have hk:k.toNat=j:=by
   rw [seqIndex_of h0 h4] at h1
   exact Option.some.inj h1
  exact PySem.W.ki_setAt ho h0 (by omega) (by rw [List.size_toArray,← hl]; exact h4) (by rw [hk]; exact ⟨_,I',q⟩)
 ·have hk:(k+(its.toArray.size:Int)).toNat=j:=by
   rw [seqIndex_neg (by omega) h3] at h1
   rw [List.size_toArray,← hl]
   exact Option.some.inj h1
  exact PySem.W.ki_setBack ho (by omega) (by rw [List.size_toArray,← hl]; exact h3) (by omega) (by rw [hk]; exact ⟨_,I',q⟩)
theorem lP (lo hi:Option Int) (n:Nat):(sliceBounds lo hi none n).1=((HT.sIx n 0 lo:Nat):Int)∧(sliceBounds lo hi none n).2.1=((HT.sIx n n hi:Nat):Int)∧(sliceBounds lo hi none n).2.2=1:=by
 refine ⟨?_,?_,rfl⟩
 ·cases lo with
  | none=>simp [sliceBounds,HT.sIx]
  | some i =>
   simp only [sliceBounds,HT.sIx,Option.getD_none,show (1:Int) > 0 by decide,if_true]
   by_cases h:i < 0
   ·simp only [h,if_true] <;> omega
   ·simp only [h,if_false] <;> omega
 ·cases hi with
  | none=>simp [sliceBounds,HT.sIx]
  | some i =>
   simp only [sliceBounds,HT.sIx,Option.getD_none,show (1:Int) > 0 by decide,if_true]
   by_cases h:i < 0
   ·simp only [h,if_true] <;> omega
   ·simp only [h,if_false] <;> omega
theorem lr (its:List Value) (lo hi:Option Int):slicePick its.toArray lo hi none=((its.drop (HT.sIx its.length 0 lo)).take (HT.sIx its.length its.length hi - HT.sIx its.length 0 lo)).toArray:=by
 obtain ⟨h1,h2,h3⟩:=lP lo hi its.toArray.size
 unfold slicePick
 rw [h1,h2,h3]
 simp only [sliceRange_one,pick_run,List.size_toArray] <;> rfl
def BQ (K:PySem.W.Frag):V→Option Int→Option Int→Hp→VK→Prop:=fun x lo hi H Q=>∃ a xs,x=.ref a∧SqL K H a xs∧∀ p,H p=none→Q (.ref p) (upd H p (.lst (gx xs lo hi)))
theorem xK:SlR X (BQ X.K):=by
 intro pins s σ H x v vl vu lo hi sl Q I rx hs pl pu h
 obtain ⟨a,xs,rfl,hx,q⟩:=h
 cases rx
 obtain ⟨its,r,ht,hz⟩:=I.list hx
 have hlen:=r.length
 refine ⟨"list",_,slot_list_getitem.lookup,ht.isList.typeIs,?_⟩
 refine wpAny_getItem_list_slice ht.isList hs pl pu .none (by simp) ?_ (by rw [List.size_toArray] <;> omega)
 rw [lr,← hlen]
 refine ⟨.ref s.heap.objs.size,_,I.laid (t':=s.toks) (o:=.lst (gx xs lo hi)) (fun b ob q=>Heap.get?_push_of_some _ q) (Nat.le_refl _) ?_,rfl,q _ (I.hok.fresh (Nat.le_refl _))⟩
 exact ⟨Nat.le_trans (nb xs lo hi) hz,_,0,(r.drop (HT.sIx xs.length 0 lo)).take (HT.sIx xs.length xs.length hi - HT.sIx xs.length 0 lo),Heap.get?_push_size _ rfl⟩
theorem mV:CallR X (.type "list") (fun xs H Q=>∃ p ys,xs=[.ref p]∧(SqL X.K H p ys∨SqT X.K H p ys)∧∀ l,H l=none→Q (.ref l) (upd H l (.lst ys))):=by
 intro pins s σ H xs us Q I r h
 obtain ⟨p,ys,rfl,hq,q⟩:=h
 obtain ⟨u,rfl,rx⟩:=cz r
 cases rx
 have fin:∀ (its:List Value),Vals ys its→ys.length≤sizeLine→∀ (h':Heap) (c':Nat),(∀ b o',s.heap.get? b=some o'→h'.get? b=some o') →
   h'.get? s.heap.objs.size=some { cls:=.type "list",dict:=none,data:=.seq its.toArray c',slots:=#[] }→EP X pins σ Q (.ref s.heap.objs.size) { s with heap:=h' }:=fun its r' hz h' c' kp e =>
  ⟨.ref s.heap.objs.size,_,I.laid (t':=s.toks) kp (Nat.le_refl _) (show ObjOk X.prog X.w _ h' _ (.lst ys) from ⟨hz,its,c',r',e⟩),rfl,q _ (I.hok.fresh (Nat.le_refl _))⟩
 rcases hq with hq | hq
 ·obtain ⟨its,r',pl,hz⟩:=I.list hq
  have hlen:=r'.length
  obtain ⟨o,ho,hc,n,hd⟩:=pl.isList
  exact call_list_seq p (.inl rfl) ho hc hd (fun h' c' kp e=>fin its r' hz h' c' kp e) (by simp only [List.size_toArray] <;> omega)
 ·obtain ⟨its,r',pl,hz⟩:=I.tuple hq
  have hlen:=r'.length
  obtain ⟨o,ho,hc,n,hd⟩:=pl
  exact call_list_seq p (.inr rfl) ho hc hd (fun h' c' kp e=>fin its r' hz h' c' kp e) (by simp only [List.size_toArray] <;> omega)
theorem lx:CallR X (.type "tuple") (fun xs H Q=>∃ p ys,xs=[.ref p]∧((SqL X.K H p ys∧∀ l,H l=none→Q (.ref l) (upd H l (.tup ys)))∨(SqT X.K H p ys∧Q (.ref p) H))):=by
 intro pins s σ H xs us Q I r h
 obtain ⟨p,ys,rfl,h⟩:=h
 obtain ⟨u,rfl,rx⟩:=cz r
 cases rx
 rcases h with ⟨hq,q⟩ | ⟨hq,q⟩
 ·obtain ⟨its,r',pl,hz⟩:=I.list hq
  have hlen:=r'.length
  refine call_tuple_list pl.isList (fun h' kp=>?_) (by simp only [List.size_toArray] <;> omega)
  have I1:Inv X pins σ H { s with heap:=h' }:=I.kept (t':=s.toks) kp
  have I2:Inv X pins σ (upd H h'.objs.size (.tup ys)) { s with heap:=h'.push { cls:=.type "tuple",data:=.seq its.toArray } } :=
   I1.laid (t':=s.toks) (fun b o e=>Heap.get?_push_of_some _ e) (Nat.le_refl _) (show ObjOk X.prog X.w _ _ _ (.tup ys) from ⟨hz,its,r',IsTupN.new _ _⟩)
  exact ⟨.ref h'.objs.size,_,I2,rfl,q _ (I1.hok.fresh (Nat.le_refl _))⟩
 ·obtain ⟨its,r',pl,hz⟩:=I.tuple hq
  exact call_tuple_same pl ⟨.ref p,H,I,rfl,q⟩
def tyV (K:PySem.W.Frag) (T:String) (x:V) (H:Hp):Prop:=match x with
 | .str _=>T="str"
 | .int _=>T="int"
 | .ref p=>(T="list"∧∃ xs,SqL K H p xs)∨(T="tuple"∧∃ o,K.lookup p=some o∧o.cls=.type "tuple"∧o.dict=none) ∨
   (T="dict"∧((∃ kvs,H p=some (.dK kvs))∨∃ kvs,H p=some (.dT kvs)))∨(T="set"∧∃ S n,H p=some (.set S n))
 | _=>False
theorem Bv {pins:List (Addr × Obj)} {σ:St} {H:Hp} {s:Shared} {T:String} {x:V} {v:Value} (I:Inv X pins σ H s) (r:RelV x v) (ty:tyV X.K T x H) :
  s.TypeIs v T∧∀ a,v=.ref a→∃ ob,s.heap.get? a=some ob∧ob.dict=none:=by
 cases x with
 | str z =>
  obtain ⟨t,rfl⟩:=r
  cases (show T="str" from ty)
  exact ⟨typeIs_str s z t,fun _ e=>nomatch e⟩
 | int i =>
  obtain ⟨t,rfl⟩:=r
  cases (show T="int" from ty)
  exact ⟨typeIs_int s i t,fun _ e=>nomatch e⟩
 | ref p =>
  cases r
  rcases ty with ⟨rfl,xs,hq⟩ | ⟨rfl,o,hk,hc,hd⟩ | ⟨rfl,hk⟩ | ⟨rfl,S,n,hk⟩
  ·obtain ⟨its,_,pl,_⟩:=I.list hq
   refine ⟨pl.isList.typeIs,fun a e=>?_⟩
   cases e
   obtain ⟨o,n,e,c,hd,_⟩:=pl
   exact ⟨o,e,hd⟩
  ·refine ⟨⟨o,I.kIn p o hk,hc⟩,fun a e=>?_⟩
   cases e
   exact ⟨o,I.kIn _ o hk,hd⟩
  ·have z:∃ o,s.heap.get? p=some o∧o.ExactDict:=by
    rcases hk with ⟨kvs,hk⟩ | ⟨kvs,hk⟩
    ·obtain ⟨_,_,_,_,o,_,_,e,ex,_⟩:=I.hok p _ hk
     exact ⟨o,e,ex⟩
    ·obtain ⟨_,_,_,_,o,_,_,e,ex,_⟩:=I.hok p _ hk
     exact ⟨o,e,ex⟩
   obtain ⟨o,e,ex⟩:=z
   refine ⟨⟨o,e,ex.1⟩,fun a e2=>?_⟩
   cases e2
   exact ⟨o,e,ex.2.1⟩
  ·obtain ⟨o,_,_,_,e,ex,_⟩:=I.hok p _ hk
   refine ⟨⟨o,e,ex.1⟩,fun a e2=>?_⟩
   cases e2
   exact ⟨o,e,ex.2.1⟩
 | _=>exact False.elim ty
def tBM (K:PySem.W.Frag) (T:String) (r:V→List V→Hp→VK→Prop) (to:TE) (t:TA):TE:=fun σ H Q=>to σ H fun x H1=>tyV K T x H1∧t σ H1 fun xs H2=>r x xs H2 Q
variable {o e:Expr} {es:List Expr} {to:TE} {t:TA} {name:Str} {apos cpos:Pos} {T id:String} {r:V→List V→Hp→VK→Prop}
theorem DZ (pa:PlainAttrs T) (slot:Slot T name id) (hty:typeOf (.builtin id)=pure (.type "method_descriptor")) (hm:MtR X id r) (ho:PE X o to) (ha:PA X (e :: es) t)
  (hbase:attributeBase o name X.env (eval o X.env)=eval o X.env:=by rfl)
  (hfew:((backTo cpos (starEach (e :: es) X.env)).all (fun x=>!x.1) && (backToKw cpos (keywordEach [] X.env)).all (fun x=>x.1.isSome)
   && decide ((e :: es).length+([]:List Keyword).length+(if ([]:List Keyword).isEmpty then 0 else 1) < 30))=true:=by rfl)
  (hline:(apos.endLine == cpos.line)=true:=by rfl) (hs:starEach (e :: es) X.env=(false,eval e X.env) :: starEach es X.env:=by rfl) (hplain:(backTo cpos (starEach es X.env)).any (·.1)=false:=by rfl) :
  PE X (.Call (.Attribute o name apos) (e :: es) [] cpos) (tBM X.K T r to t):=by
 intro pins s σ H Q I h
 refine wpAny_Call_method_late hbase hfew hline rfl (thn (ho pins s σ H _ I h) fun v s1 ⟨x,H1,I1,r1,ty,q1⟩=>?_)
 obtain ⟨h1,h2⟩:=Bv I1 r1 ty
 refine ⟨T,id,pa,slot,hty,h1,h2,?_⟩
 have hA:=ha cpos pins s1 σ H1 _ I1 q1
 rw [hs] at hA ⊢
 refine Calls.callWith_builtin (by show (false || (backTo cpos (starEach es X.env)).any (·.1))=false; rw [hplain] <;> rfl) (Calls.evalArgs_plain ?_)
 exact thn hA fun us s2 ⟨vs,H2,I2,r2,q2⟩=>hm pins s2 σ H2 x vs v us Q I2 r1 r2 q2
end
end L2
namespace L2
open PySem PySem.Spec PyProof.Rows
def MtM (X:Cx) (id:String) (r:V→List V→Hp→VK→Prop):Prop :=
 ∀ (pins:List (Addr × Obj)) (s:Shared) (σ:St) (H:Hp) (x:V) (xs:List V) (v:Value) (us:List Value) (Q:VK),Inv X pins σ H s→RelV x v→Vals xs us→r x xs H Q →
  wpAny (model X.prog X.w) X.A (call (.builtin id) (v :: us)) (EP X pins σ Q) X.xe s
theorem Vals.one:∀ {x:V} {us:List Value},Vals [x] us→∃ u,us=[u]∧RelV x u
 | _,_,.cons r .nil=>⟨_,rfl,r⟩
theorem Vals.two {x y:V} {us:List Value} (h:Vals [x,y] us):∃ u v,us=[u,v]∧RelV x u∧RelV y v:=by
 cases h with
 | cons r t =>
  cases t with
  | cons q n =>
   cases n
   exact ⟨_,_,rfl,r,q⟩
section
variable {X:Cx} {pins:List (Addr × Obj)} {σ:St} {H:Hp} {s:Shared} {l b:Addr} {xs ys zs:List V}
theorem Inv.lset {its its':List Value} {n:Nat} {f:Array Value→Array Value} {t':Nat} (I:Inv X pins σ H s) (hH:H l=some (.lst xs))
  (e:s.heap.get? l=some { cls:=.type "list",data:=.seq its.toArray n }) (hf:f its.toArray=its'.toArray) (hv:Vals ys its') (hz:ys.length≤sizeLine) :
  Inv X pins σ (upd H l (.lst ys)) { s with heap:=s.heap.update l (Obj.mapSeq f),toks:=t' }:=by
 have q:=PySem.IsL.update e f
 rw [hf] at q
 refine I.write (x:=l) (e:=l) (by rw [hH]; exact trivial) (.inl rfl) (fun b' u hb hu=>(Heap.get?_update_other s.heap (Obj.mapSeq f) (Ne.symm hb)).trans hu) ⟨_,q⟩ ?_
 exact ⟨hz,its',_,hv,q⟩
theorem Inv.lnew {its:List Value} {t':Nat} (I:Inv X pins σ H s) (hv:Vals ys its) (hz:ys.length≤sizeLine) :
  Inv X pins σ (upd H s.heap.objs.size (.lst ys)) { s with heap:=s.heap.push { cls:=.type "list",data:=.seq its.toArray },toks:=t' } :=
 I.laid (fun _ _ q=>Heap.get?_push_of_some _ q) (Nat.le_refl _) ⟨hz,its,0,hv,Heap.get?_push_size _ rfl⟩
theorem Inv.fresh (I:Inv X pins σ H s):H s.heap.objs.size=none:=I.hok.fresh (Nat.le_refl _)
theorem Inv.lstM (I:Inv X pins σ H s) (hH:H l=some (.lst xs)):xs.length≤sizeLine∧∃ (its:List Value) (n:Nat),Vals xs its∧xs.length=its.length∧s.heap.get? l=some { cls:=.type "list",data:=.seq its.toArray n }:=by
 obtain ⟨z,its,n,r,e⟩:=I.hok l _ hH
 exact ⟨z,its,n,r,r.length,e⟩
end
section
variable {X:Cx}
def nq:V→List V→Hp→VK→Prop:=fun x vs H Q=>∃ l xs y,x=.ref l∧vs=[y]∧H l=some (.lst xs)∧xs.length < sizeLine∧Q .non (upd H l (.lst (xs++[y])))
theorem kQ:MtM X "list.append" nq:=by
 intro pins s σ H x vs v us Q I rx rv h
 obtain ⟨l,xs,y,rfl,rfl,hH,hz,q⟩:=h
 cases rx
 obtain ⟨u,rfl,ru⟩:=rv.one
 obtain ⟨z,its,n,r,hl,e⟩:=I.lstM hH
 refine call_meets F.slot_list_append ⟨_,e,rfl⟩ F.entry_list_append (F.args_list_append_2 _ _) (PySem.list_append l its.toArray n u (by rw [List.size_toArray]; omega)) ⟨e,?_⟩
 refine ⟨.non,_,I.lset (its':=its++[u]) hH e (by simp) (r.append (.cons ru .nil)) ?_,rfl,q⟩
 rw [List.length_append,List.length_singleton]
 omega
end
section
variable {prog:Program} {w:World} {A:Around} {E:Value→Shared→Prop} {s:Shared}
end
section
variable {X:Cx}
end
end L2
namespace Att
open PySem PySem.W PySem.Calls PyProof.Rows
theorem j4 {P:Params} {h:Heap}:∀ (ns:List Int) (vs:List Value),WellAll P h vs (ns.map WData.int)→IntsAre vs ns:=by
 intro ns
 induction ns with
 | nil =>
  intro vs w
  rw [List.map_nil] at w
  cases w
  exact .nil
 | cons n ns ih =>
  intro vs w
  rw [List.map_cons] at w
  cases w with
  | cons a b =>
   cases a
   exact .cons _ _ (ih _ b)
theorem oY {l:OpenLaw} {n:Nat} (hn:l.most=some n) {P:Params} {h:Heap} {args:List WData} {bz:List Value}
  (hpre:l.row.toRowW.claim.pre args=true) (hwl:WellAll P h bz args) :
  ∃ a vs ns,bz=[Value.ref a]∧args=[WData.list (ns.map WData.int)]∧h.get? a=some { cls:=.type "list",data:=.seq vs.toArray }∧IntsAre vs ns∧ns.length≤n:=by
 have hsh:WShape.hasAll [] args [.list .int]=true:=(pre_splitW hpre).1
 have hc:l.pre.holds [] { args:=args }=true:=(pre_splitW hpre).2
 obtain ⟨d,r,rfl,h1,h2⟩:=hasAllW_cons hsh
 obtain rfl:=hasAllW_nil h2
 obtain ⟨xs,rfl,h3⟩:=hasW_list h1
 obtain ⟨ns,rfl⟩:=items_int h3
 have hlen:ns.length≤n:=by
  unfold OpenLaw.pre at hc
  have h4:(WTm.not (.lt (.lit (.int (n:Int))) (.len (.arg 0)))).holds [] { args:=[.list (ns.map .int)] }=true:=by
   have h4:=(holds_andW hc).1
   rw [hn] at h4
   exact h4
  have h5:=condW_of h4 (w_not (w_lt w_lit (w_len_list (w_arg rfl))))
  rw [List.length_map] at h5
  refine Nat.le_of_not_lt fun q=>?_
  have q':(n:Int) < ((ns.length:Nat):Int):=by omega
  first
   | (rw [decide_eq_true q'] at h5; exact absurd h5 (by decide))
   | (simp at h5; omega)
 cases hwl with
 | cons w1 w2 =>
  cases w2
  cases w1 with
  | list ho hall=>exact ⟨_,_,ns,rfl,rfl,ho,j4 ns _ hall,hlen⟩
theorem o7 (l:OpenLaw) (args:List WData):l.row.toRowW.claim.post args (.bool true) args=true :=
 postW_of (r:=l.row.toRowW) (X:=(true == true))
  (show WShape.has [] (.bool true) .bool=true by first | rfl | decide | simp [WShape.has,WShape.arms,WShape.armsAll])
  (show (WTm.eq .res (.lit (.bool true))).value [] { args:=args,res:=some (.bool true),after:=args }=some (.bool (true == true)) from w_eq_bool (w_res rfl) w_lit) rfl
theorem attach_call {l:OpenLaw} {n:Nat} {q:Program} {loose:List Str} {XP:(Str→Option Value)→Heap→Prop} {YP:World→Heap→Prop} {d:DefRec}
  (hn:l.most=some n) (hdf:d.params.defaults=[])
  (call:∀ (w:World) (s₀ s₁:Shared) (mg mb:Str→Option Value) (fa:Addr) (o:Obj) (pm cd doc:Value) (a:Addr) (vs:List Value) (ns:List Int),
   Ground q loose [] XP w s₀ mg mb s₁.heap→YP w s₁.heap →
   s₁.heap.get? fa=some o→o.data=.func (docDef d.name d.params d.body d.scope pm cd doc)→s₁.heap.CodeRec cd d.name→mg d.name=some (.ref fa) →
   s₁.heap.get? a=some { cls:=.type "list",data:=.seq vs.toArray }→IntsAre vs ns→ns.length≤n→s₁.gens=#[] →
   codeAny (model l.prog w) callerA (.call (.ref fa) ⟨[.ref a],[]⟩) (fun r s'=>r=.ok (.ret (.bool true))∧OldK s₁.heap s'.heap∧s'.os=s₁.os∧AllBare s'.gens) s₁) :
  WalkO q loose XP YP l.row.toRowW d [] (fun f vs=>PySem.call f vs):=by
 intro w s₀ s₁ mg mb G Y fa o pm cd doc dV kV ho hd hcd hD hmg hg args bz as hpre hlay hrd hwl hlo
 obtain rfl:dV=.none:=Dflts.none hD hdf
 obtain rfl:kV=.none:=Dflts.noKw hD
 obtain ⟨a,vs,ns,rfl,rfl,hobj,hints,hlen⟩:=oY hn hpre hwl
 refine enter_call (codeAny_mono (call w s₀ s₁ mg mb fa o pm cd doc a vs ns G Y ho (fd_plain hd) hcd hmg hobj hints hlen hg) fun r s' hq=>?_)
 obtain ⟨rfl,h2,h3,h4⟩:=hq
 exact ⟨.inl ⟨.bool true,.bool true,[],rfl,fun _=>rfl,.bool true,o7 l _,fun _=>⟨List.Pairwise.nil,fun _ hm=>(nomatch hm)⟩⟩,h2,h3,h4⟩
section
variable {prog:Program} {w:World} {A:Around} {E:Value→Shared→Prop} {s:Shared} {K:Frag}
end
end Att
namespace L2
open PySem PySem.Spec PyProof.Rows
theorem kL:∀ {vs:List Value} {ns:List Int},IntsAre vs ns→Vals (ns.map V.int) vs
 | _,_,.nil=>.nil
 | _,_,.cons n t h=>.cons ⟨t,rfl⟩ (kL h)
def rJ (H:Hp):Prop:=∀ b,H b=none∨∃ o xs,H b=some (.frz o (.lst xs))
theorem qF {P:Program} {w:World} {K:PySem.W.Frag} {mg mb:Str→Option Value} {CX:CXT} {k:Nat} {fa a:Addr} {fd:FuncData} {x:Str} {sp:Sp} {s₁:Shared} {vs:List Value} {ns:List Int}
  (KX:K.In s₁.heap) (hns:s₁.heap.Ns mainGlobals mg) (hb:s₁.heap.Ns builtinsNs mb) (hbb:∀ x:Str,x≠"__name__"→mb x=bootBuiltins x) (hlim:s₁.heap.NoLimit) (hmods:∃ mm,s₁.heap.Ns sysModules mm) (hg:s₁.gens=#[])
  (ha:s₁.heap.get? a=some { cls:=.type "list",data:=.seq vs.toArray }) (hi:IntsAre vs ns) (hl:ns.length≤sizeLine) (hr:Room k callerA)
  (F:∀ base:Heap,K.In base→base.Ns mainGlobals mg→FnOk P w K mg base CX k fa fd [x] sp) (hbind:∀ (s:Shared) (u:Value),BindsTo s fd ⟨[u],[]⟩ [(x,u)])
  (hsp:∀ H:Hp,rJ H→SqL K H a (ns.map V.int)→sp [.ref a] H (fun v _=>v=.bl true) fun _ _ _=>False)
  (hCX:∀ H e s',CX [] H s₁ (fun _ _ _=>False) e s'→False) :
  codeAny (model P w) callerA (.call (.ref fa) ⟨[.ref a],[]⟩) (fun r s'=>r=.ok (.ret (.bool true))∧OldK s₁.heap s'.heap∧s'.os=s₁.os∧AllBare s'.gens) s₁:=by
 have rv:=kL hi
 have lenV:=hi.length
 have core:∀ H:Hp,rJ H→SqL K H a (ns.map V.int)→HOk P w H s₁.heap→(∀ b,H b≠none→b=a)→(H a≠none→K.lookup a=none) →
   codeAny (model P w) callerA (.call (.ref fa) ⟨[.ref a],[]⟩) (fun r s'=>r=.ok (.ret (.bool true))∧OldK s₁.heap s'.heap∧s'.os=s₁.os∧AllBare s'.gens) s₁:=by
  intro H hO hS hok hA hK
  have base_of:∀ {b:Addr} {o:Obj},s₁.heap.get? b=some o→H b=none→(im s₁.heap H).get? b=some o:=fun e n=>qQ e n
  have noA:∀ {b:Addr} {o:Obj} {es:Array DictEntry} {ep:Nat},s₁.heap.get? b=some o→o.data=.dict es ep→H b=none:=fun {b o es ep} e d=>by
   cases q:H b with
   | none=>rfl
   | some u =>
    have e':b=a:=hA b (by rw [q]; simp)
    subst e'
    rw [ha] at e; cases e
    have d':Data.seq vs.toArray _=Data.dict es ep:=d
    cases d'
  have nsK:∀ {b:Addr} {m:Str→Option Value},s₁.heap.Ns b m→(im s₁.heap H).Ns b m:=fun {b m} ⟨o,es,ep,e,d,r⟩=>⟨o,es,ep,base_of e (noA e d),d,r⟩
  have hKb:K.In (im s₁.heap H):=fun b o e=>base_of (KX b o e) (by
   cases q:H b with
   | none=>rfl
   | some u =>
    have e':b=a:=hA b (by rw [q]; simp)
    subst e'
    rw [hK (by rw [q]; simp)] at e; cases e)
  have hM:Mod K mg (im s₁.heap H):=⟨hKb,nsK hns,⟨mb,nsK hb,hbb⟩,let ⟨mc,h1,h2⟩:=hlim; ⟨mc,nsK h1,h2⟩,let ⟨mm,h1⟩:=hmods; ⟨mm,nsK h1⟩⟩
  have e0:Env0 P w K mg (im s₁.heap H) callerA [] s₁ H:=⟨rfl,hM,fun b o e=>yd e,Nat.le_of_eq (pE _ _),trivial,fun b hb=>absurd (show b∈([]:List Addr) from hb) (by simp),hok,.of_eq hg⟩
  refine codeAny_mono ((F _ hKb (nsK hns)).run callerA [] s₁ H ⟨[.ref a],[]⟩ [.ref a] [.ref a] _ _ hr e0 (hbind s₁ (.ref a)) (.cons rfl .nil) (hsp H hO hS)) fun r s' h=>?_
  cases r with
  | error e=>exact (hCX H e s' h).elim
  | ok fl =>
   cases fl with
   | next=>exact False.elim h
   | brk=>exact False.elim h
   | cont=>exact False.elim h
   | ret u =>
    obtain ⟨v,H',os,bare,un,hok',r',q⟩:=h
    have q':v=.bl true:=q
    subst q'
    obtain rfl:u=Value.bool true:=r'
    refine ⟨rfl,OldK.of_keep fun b o e=>?_,os,bare⟩
    cases q:H b with
    | none=>exact un.keep b o e q (by intro z; exact absurd (show b∈([]:List Addr) from z) (by simp)) (by simp)
    | some u =>
     rcases hO b with z | ⟨ob,xs,z⟩
     ·rw [q] at z; cases z
     ·have z2:=un.frzs b ob _ z
      obtain ⟨e1,_⟩:=hok b _ z
      obtain ⟨e2,_⟩:=hok' b _ z2
      rw [e] at e1; cases e1
      exact e2
 cases hk:K.lookup a with
 | some o =>
  have e:=KX a o hk
  rw [ha] at e
  cases e
  refine core (fun _=>none) (fun _=>.inl rfl) (.inr ⟨_,vs.toArray,_,hk,rfl,rfl,rfl,by rw [List.size_toArray,lenV]; exact hl,by simpa using rv⟩) (fun b u z=>by have z':(none:Option HO)=some u:=z; cases z') (fun b z=>absurd rfl z) fun z=>absurd rfl z
 | none =>
  refine core (fun b=>if b=a then some (.frz { cls:=.type "list",data:=.seq vs.toArray } (.lst (ns.map V.int))) else none) (fun b=>?_) (.inl (.inr ⟨{ cls:=.type "list",data:=.seq vs.toArray },if_pos rfl⟩)) (fun b u z=>?_) (fun b z=>?_) fun _=>hk
  ·by_cases hb:b=a
   ·exact .inr ⟨_,_,if_pos hb⟩
   ·exact .inl (if_neg hb)
  ·by_cases hb:b=a
   ·have z':=(if_pos hb).symm.trans z
    cases z'
    subst hb
    exact ⟨ha,by rw [List.length_map]; exact hl,vs,_,rv,ha⟩
   ·have z':=(if_neg hb).symm.trans z
    cases z'
  ·by_cases hb:b=a
   ·exact hb
   ·exact absurd (if_neg hb) z
end L2
namespace L2
open PySem PySem.Spec PyProof.Rows
theorem walk_of {l:PySem.W.OpenLaw} {n k:Nat} {q:Program} {loose:List Str} {XP:(Str→Option Value)→Heap→Prop} {YP:World→Heap→Prop} {d:DefRec} {K:Params→PySem.W.Frag} {CX:World→CXT} {sp:World→Sp} {x:Str}
  (hn:l.most=some n) (hn2:n≤sizeLine) (hdf:d.params.defaults=[]) (hr:Room k callerA)
  (hq:importsNone q=true) (hY:∀ (w:World) (h:Heap),YP w h→(K w.params).In h)
  (F:∀ (w:World) (mg:Str→Option Value) (fa:Addr) (h:Heap),(K w.params).In h→h.Ns mainGlobals mg→mg d.name=some (.ref fa) →
   ∃ fd:FuncData,(∀ (s:Shared) (u:Value),BindsTo s fd ⟨[u],[]⟩ [(x,u)]) ∧
    ∀ base:Heap,(K w.params).In base→base.Ns mainGlobals mg→FnOk l.prog w (K w.params) mg base (CX w) k fa fd [x] (sp w))
  (hsp:∀ (w:World) (H:Hp) (a:Addr) (ns:List Int),ns.length≤n→rJ H→SqL (K w.params) H a (ns.map V.int)→sp w [.ref a] H (fun v _=>v=.bl true) fun _ _ _=>False)
  (hCX:∀ (w:World) (H:Hp) (s:Shared) (e:Value) (s':Shared),CX w [] H s (fun _ _ _=>False) e s'→False) :
  PySem.W.WalkO q loose XP YP l.row.toRowW d [] (fun f vs=>PySem.call f vs):=by
 refine Att.attach_call hn hdf fun w s₀ s₁ mg mb fa o pm cd doc a vs ns G Y ho hd hcd hmg hobj hints hlen hg=>?_
 have KX:=hY w _ Y
 obtain ⟨fd,hb,hF⟩:=F w mg fa _ KX G.T.g hmg
 exact qF KX G.T.g G.T.b G.T.builtins G.T.nolimit (let ⟨mm,hm,_⟩:=(G.T.seer hq).mods; ⟨mm,hm⟩) hg hobj hints (Nat.le_trans hlen hn2) hr hF hb (fun H hO hS=>hsp w H a ns hlen hO hS) fun H e s'=>hCX w H s₁ e s'
end L2
namespace L2
open PySem PySem.Spec PyProof.Rows
def dQ (s:Stmt):Arguments:=match s with
 | .FunctionDef _ a _ _ _ _ _ _ _ _=>a
 | _=>{ posonlyargs:=[],args:=[],vararg:=none,kwonlyargs:=[],kw_defaults:=[],kwarg:=none,defaults:=[] }
def cL (s:Stmt):List Stmt:=match s with
 | .FunctionDef _ _ b _ _ _ _ _ _ _=>b
 | _=>[]
def aq (s:Stmt):Scope:=match s with
 | .FunctionDef _ _ _ _ _ _ sc _ _ _=>sc
 | _=>{ kind:=.function,names:=[],isGenerator:=false,isCoroutine:=false }
abbrev CX0:CXT:=fun _ _ _ _ _ _=>False
abbrev E0:XK:=fun _ _ _=>False
theorem D0 {X:Cx}:mX CX0 X E0:=fun _ _ _ _ _ _ _ h=>h.elim
structure Fun (K:PySem.W.Frag) (x qual:Str) (st:Stmt) (f:Addr) (fd:FuncData):Prop where
 ex:∃ (oc:Value) (od:Option Addr) (kV doc pm:Value) (an:Option Addr) (cdv ct:Value) (osl:Array (Option Value)),
  fd=PySem.W.fnOf x qual (dQ st) (cL st) (aq st) .none kV doc pm an cdv ct∧K.lookup f=some ⟨oc,od,.func fd,osl⟩∧PySem.W.codeIn K cdv qual=true
 kp:PySem.W.keepIn K (.ref f)=true
section
variable {P:Program} {w:World} {K:PySem.W.Frag} {mg:Str→Option Value} {base:Heap}
theorem Fun.ok {x qual:Str} {st:Stmt} {f:Addr} {fd:FuncData} {N ps:List Str} {k:Nat} {sp:Sp} (F:Fun K x qual st f fd) (S:FnScope N ps (aq st)) (len:∀ vs H Q E,sp vs H Q E→vs.length=ps.length)
  (hbody:∀ (cdv:Value) (A:Around) (outer:List Env) (s:Shared) (H:Hp) (vs:List V) (Q:VK) (E:XK),Room k (A.deeper (envOfC qual (aq st) s.heap.objs.size f cdv))→sp vs H Q E →
   ∃ t,PSs (jM CX0 P w K mg base N qual (aq st) f cdv A outer s H E).nox (cL st) t∧t { nx:=fun _ H'=>Q .non H',rt:=Q } (de N vs) H):FnOk P w K mg base CX0 (k+1) f fd ps sp:=by
 obtain ⟨oc,od,kV,doc,pm,an,cdv,ct,osl,rfl,lk,hcd⟩:=F.ex
 refine Ee lk hcd S len fun A outer s H vs Q E hr hsp=>?_
 obtain ⟨t,h,q⟩:=hbody cdv A outer s H vs Q E hr hsp
 exact ⟨t,h.nox,q⟩
theorem Fun.binds {x qual:Str} {st:Stmt} {f:Addr} {fd:FuncData} {ps:List Str} (F:Fun K x qual st f fd)
  (h:∀ (kV doc pm:Value) (an:Option Addr) (cdv ct:Value) (us:List Value),us.length=ps.length→bindArgs (PySem.W.fnOf x qual (dQ st) (cL st) (aq st) .none kV doc pm an cdv ct) ⟨us,[]⟩=pure (ps.zip us)):Binds K fd ps []:=by
 obtain ⟨oc,od,kV,doc,pm,an,cdv,ct,osl,rfl,lk,hcd⟩:=F.ex
 exact .all (h kV doc pm an cdv ct)
theorem pG {x qual:Str} {st:Stmt} {f:Addr} {oc:Value} {od an:Option Addr} {osl:Array (Option Value)} {kV doc pm cdv ct:Value} (l:K.lookup f=some ⟨oc,od,.func (PySem.W.fnOf x qual (dQ st) (cL st) (aq st) .none kV doc pm an cdv ct),osl⟩)
  (c:PySem.W.codeIn K cdv qual=true) (k:PySem.W.keepIn K (.ref f)=true):Fun K x qual st f (PySem.W.fnOf x qual (dQ st) (cL st) (aq st) .none kV doc pm an cdv ct):=⟨⟨oc,od,kV,doc,pm,an,cdv,ct,osl,rfl,l,c⟩,k⟩
end
theorem gh {A:Around} {k:Nat} (hr:Room k A):A.units+1 < cLine:=Nat.lt_of_le_of_lt (Nat.add_le_add_left (by decide:1≤64) _) hr.units
section
variable {X:Cx}
theorem pv (i:Nat) {x:Str} {pos:Pos} (hN:X.N[i]?=some x:=by rfl) (hv:Vis X.env.scope x:=by first | exact Or.inl rfl | exact Or.inr (Or.inl rfl) | exact Or.inr (Or.inr rfl)) (hd:(x == ("__debug__" : Str))=false:=by decide)
  (hcd:(x == ("__classdict__" : Str))=false:=by decide):PE X (.Name x pos) (eE i):=cS hN hv hd hcd
end
def DF (H H':Hp):Prop:=∀ b o,H b=some o→H' b=some o
end L2
namespace L2
open PySem PySem.Spec PyProof.Rows
section
variable {κ:Type} [DecidableEq κ]
def dI (kvs:List (κ × V)) (k:κ):Option V:=(kvs.find? fun kv=>decide (kv.1=k)).map (·.2)
def cA (kvs:List (κ × V)) (k:κ) (v:V):List (κ × V) :=
 if (kvs.any fun kv=>decide (kv.1=k))=true then kvs.map (fun kv=>if kv.1=k then (kv.1,v) else kv) else kvs++[(k,v)]
theorem hV {p:κ × V} {r:List (κ × V)} {k:κ} (e:p.1=k):dI (p :: r) k=some p.2:=by simp [dI,List.find?_cons,e]
theorem hX {p:κ × V} {r:List (κ × V)} {k:κ} (e:¬ p.1=k):dI (p :: r) k=dI r k:=by simp [dI,List.find?_cons,e]
theorem lL (k:κ):∀ kvs:List (κ × V),(kvs.any fun kv=>decide (kv.1=k))=(dI kvs k).isSome
 | []=>rfl
 | p :: r=>by
  rw [List.any_cons]
  by_cases e:p.1=k
  ·simp only [hV e,decide_eq_true e,Bool.true_or,Option.isSome_some]
  ·rw [hX e,decide_eq_false e,Bool.false_or]; exact lL k r
theorem gt (kvs:List (κ × V)) (k:κ) (v:V):(cA kvs k v).length≤kvs.length+1:=by
 unfold cA
 split
 ·rw [List.length_map]; omega
 ·rw [List.length_append,List.length_cons,List.length_nil]; omega
theorem RelO.isSome_eq {o:Option V} {u:Option Value} (r:RelO o u):o.isSome=u.isSome:=by
 cases o with
 | none=>cases u with
  | none=>rfl
  | some _=>exact (show False from r).elim
 | some _=>cases u with
  | none=>exact (show False from r).elim
  | some _=>rfl
theorem KV.val {kvs:List (κ × V)} {vs:List (κ × Value)} (r:KV kvs vs) (k:κ):RelO (dI kvs k) (valueAt vs k):=by
 unfold KV at r
 induction r with
 | nil=>exact True.intro
 | @cons p q ps qs h t ih =>
  obtain ⟨h1,h2⟩:=h
  by_cases e:p.1=k
  ·have e':q.1=k:=h1.symm.trans e
   have b:valueAt (q :: qs) k=some q.2:=by simp [valueAt,List.find?_cons,e']
   rw [hV e,b]; exact h2
  ·have e':¬ q.1=k:=fun z=>e (h1.trans z)
   have b:valueAt (q :: qs) k=valueAt qs k:=by simp [valueAt,List.find?_cons,e']
   rw [hX e,b]; exact ih
theorem KV.any {kvs:List (κ × V)} {vs:List (κ × Value)} (r:KV kvs vs) (k:κ):(kvs.any fun kv=>decide (kv.1=k))=vs.any fun kv=>decide (kv.1=k):=by
 unfold KV at r
 induction r with
 | nil=>rfl
 | cons h t ih=>rw [List.any_cons,List.any_cons,ih,h.1]
theorem KV.repl {kvs:List (κ × V)} {vs:List (κ × Value)} (r:KV kvs vs) (k:κ) {y:V} {u:Value} (ry:RelV y u) :
  KV (kvs.map fun kv=>if kv.1=k then (kv.1,y) else kv) (vs.map fun kv=>if kv.1=k then (kv.1,u) else kv):=by
 unfold KV at r ⊢
 induction r with
 | nil=>exact .nil
 | @cons p q ps qs h t ih =>
  rw [List.map_cons,List.map_cons]
  refine .cons ?_ ih
  obtain ⟨h1,h2⟩:=h
  by_cases e:p.1=k
  ·rw [if_pos e,if_pos (h1.symm.trans e)]; exact ⟨h1,ry⟩
  ·rw [if_neg e,if_neg (fun z=>e (h1.trans z))]; exact ⟨h1,h2⟩
theorem KV.put {kvs:List (κ × V)} {vs:List (κ × Value)} (r:KV kvs vs) (k:κ) {y:V} {u:Value} (ry:RelV y u):KV (cA kvs k y) (stored vs k u):=by
 unfold cA stored
 rw [r.any k]
 by_cases e:(vs.any fun kv=>decide (kv.1=k))=true
 ·rw [if_pos e,if_pos e]; exact r.repl k ry
 ·rw [if_neg e,if_neg e]; exact Paired.snoc r ⟨rfl,ry⟩
theorem KV.length {kvs:List (κ × V)} {vs:List (κ × Value)} (r:KV kvs vs):kvs.length=vs.length:=Paired.length r
end
theorem lE {P:Program} {w:World} {k:Key} {u:Value} (r:RelV (kV k) u):(bn P w).is k u=true:=by
 cases k with
 | inl i=>obtain ⟨t,e⟩:=(show ∃ t,u=Value.int i t from r); subst e; exact m9 P w i t
 | inr x=>obtain ⟨t,e⟩:=(show ∃ t,u=Value.str x t from r); subst e; exact m8 P w x t
theorem Ck {a b:Key} (e:kV a=kV b):a=b:=by
 cases a with
 | inl i=>cases b with
  | inl j=>have e':V.int i=V.int j:=e; injection e' with e'; rw [e']
  | inr y=>exact nomatch (show V.int i=V.str y from e)
 | inr x=>cases b with
  | inl j=>exact nomatch (show V.str x=V.int j from e)
  | inr y=>have e':V.str x=V.str y:=e; injection e' with e'; rw [e']
theorem kR {P:Program} {w:World}:∀ {ks:List Key} {us:List Value},Vals (ks.map kV) us→ItemsAre (bn P w) ks us
 | [],_,r=>by rw [List.map_nil] at r; cases r; exact .nil
 | k :: ks,_,r=>by
  rw [List.map_cons] at r
  cases r with
  | cons h t=>exact .cons (lE h) (kR t)
abbrev KT (H:Hp):List (List Key × V)→List (List Key × Addr × Value)→Prop:=Paired fun p q=>p.1=q.1∧H q.2.1=some (.tup (p.1.map kV))∧RelV p.2 q.2.2
theorem KT.val {H:Hp} {kvs:List (List Key × V)} {xs:List (List Key × Addr × Value)} (r:KT H kvs xs) (k:List Key):RelO (dI kvs k) ((atKey xs k).map (·.2)):=by
 induction r with
 | nil=>exact True.intro
 | @cons p q ps qs h t ih =>
  obtain ⟨h1,_,h2⟩:=h
  by_cases e:p.1=k
  ·have e':q.1=k:=h1.symm.trans e
   have b:atKey (q :: qs) k=some q.2:=by simp [atKey,List.find?_cons,e']
   rw [hV e,b]; exact h2
  ·have e':¬ q.1=k:=fun z=>e (h1.trans z)
   have b:atKey (q :: qs) k=atKey qs k:=by simp [atKey,List.find?_cons,e']
   rw [hX e,b]; exact ih
theorem KT.repl {H:Hp} {kvs:List (List Key × V)} {xs:List (List Key × Addr × Value)} (r:KT H kvs xs) (k:List Key) {y:V} {u:Value} (ry:RelV y u) :
  KT H (kvs.map fun kv=>if kv.1=k then (kv.1,y) else kv) (xs.map (putAt k u)):=by
 induction r with
 | nil=>exact .nil
 | @cons p q ps qs h t ih =>
  rw [List.map_cons,List.map_cons]
  refine .cons ?_ ih
  obtain ⟨h1,h2,h3⟩:=h
  unfold putAt
  by_cases e:p.1=k
  ·rw [if_pos e,if_pos (h1.symm.trans e)]; exact ⟨h1,h2,ry⟩
  ·rw [if_neg e,if_neg (fun z=>e (h1.trans z))]; exact ⟨h1,h2,h3⟩
theorem KT.put {H:Hp} {kvs:List (List Key × V)} {xs:List (List Key × Addr × Value)} (r:KT H kvs xs) (k:List Key) {b:Addr} {y:V} {u:Value} (hb:H b=some (.tup (k.map kV))) (ry:RelV y u) :
  KT H (cA kvs k y) (storedH xs k b u):=by
 have e:(kvs.any fun kv=>decide (kv.1=k))=(atKey xs k).isSome:=by
  rw [lL,(r.val k).isSome_eq,Option.isSome_map]
 unfold cA storedH
 rw [e]
 by_cases q:(atKey xs k).isSome=true
 ·rw [if_pos q,if_pos q]; exact r.repl k ry
 ·rw [if_neg q,if_neg q]; exact Paired.snoc r ⟨rfl,hb,ry⟩
theorem KT.keeps {H H':Hp} {kvs:List (List Key × V)} {xs:List (List Key × Addr × Value)} (r:KT H kvs xs) (ht:∀ b ys,H b=some (.tup ys)→H' b=some (.tup ys)):KT H' kvs xs :=
 Paired.mapP r fun _ _ z=>⟨z.1,ht _ _ z.2.1,z.2.2⟩
section
variable {P:Program} {w:World} {H:Hp} {h:Heap} {a:Addr}
theorem xm {u:HO} (ok:HOk P w H h) (e:Rd H a u):ObjOk P w H h a u:=e.ok ok
theorem oI {kvs:List (Key × V)} (ok:HOk P w H h) (e:Rd H a (.dK kvs)):kvs.length≤sizeLine∧(a == sysModules)=false∧∃ vs,KV kvs vs∧h.DictOf (bn P w) a vs :=
 show ObjOk P w H h a (.dK kvs) from xm ok e
theorem kd {kvs:List (Key × V)} (ok:HOk P w H h) (e:H a=some (.dK kvs)):kvs.length≤sizeLine∧(a == sysModules)=false∧∃ vs,KV kvs vs∧h.DictOf (bn P w) a vs:=oI ok (.inl e)
theorem ms {ks:List Key} (ok:HOk P w H h) (e:H a=some (.tup (ks.map kV))):(tupleKind (bn P w)).is h ks a:=by
 obtain ⟨_,its,r,o,h1,h2,n,h3⟩:=(show ObjOk P w H h a (.tup (ks.map kV)) from ok a _ e)
 exact ⟨o,its.toArray,n,h1,h2,h3.1,by simpa using kR r⟩
theorem oH {kvs:List (List Key × V)} (ok:HOk P w H h) (e:Rd H a (.dT kvs)):kvs.length≤sizeLine∧(a == sysModules)=false ∧
  ∃ xs,KT H kvs xs∧h.DictOfH (tupleKind (bn P w)) a xs:=by
 obtain ⟨z,y,xs,r,o,es,ep,h1,h2,h3,h4,h5⟩:=(show ObjOk P w H h a (.dT kvs) from xm ok e)
 refine ⟨z,y,xs,r,o,es,ep,h1,h2,h3,h4,fun x hx=>?_,h5⟩
 have all:∀ {l:List (List Key × V)} {m:List (List Key × Addr × Value)},KT H l m→∀ x∈m,(tupleKind (bn P w)).is h x.1 x.2.1:=by
  intro l m q
  induction q with
  | nil=>intro x hx; exact nomatch hx
  | @cons p q ps qs hq t ih =>
   intro x hx
   rcases List.mem_cons.mp hx with e | hx
   ·subst e
    exact ms ok (by rw [← hq.1]; exact hq.2.1)
   ·exact ih x hx
 exact all r x hx
theorem EB {kvs:List (List Key × V)} (ok:HOk P w H h) (e:H a=some (.dT kvs)):kvs.length≤sizeLine∧(a == sysModules)=false ∧
  ∃ xs,KT H kvs xs∧h.DictOfH (tupleKind (bn P w)) a xs:=oH ok (.inl e)
end
def DGet (H:Hp) (a:Addr) (y:V) (r:Option V):Prop :=
 (∃ kvs k,Rd H a (.dK kvs)∧y=kV k∧r=dI kvs k)∨∃ kvs k b,Rd H a (.dT kvs)∧y=.ref b∧H b=some (.tup (k.map kV))∧r=dI kvs k
def DPut (H:Hp) (a:Addr) (y v:V) (H':Hp):Prop :=
 (∃ kvs k,H a=some (.dK kvs)∧y=kV k∧kvs.length < sizeLine∧H'=upd H a (.dK (cA kvs k v))) ∨
 ∃ kvs k b,H a=some (.dT kvs)∧y=.ref b∧H b=some (.tup (k.map kV))∧kvs.length < sizeLine∧H'=upd H a (.dT (cA kvs k v))
theorem DGet.k {H:Hp} {a:Addr} {kvs:List (Key × V)} {k:Key} (e:H a=some (.dK kvs)):DGet H a (kV k) (dI kvs k):=.inl ⟨kvs,k,.inl e,rfl,rfl⟩
theorem DPut.k {H:Hp} {a:Addr} {kvs:List (Key × V)} {k:Key} {v:V} (e:H a=some (.dK kvs)) (hl:kvs.length < sizeLine):DPut H a (kV k) v (upd H a (.dK (cA kvs k v))):=.inl ⟨kvs,k,e,rfl,hl,rfl⟩
section
variable {X:Cx} {pins:List (Addr × Obj)} {σ:St} {H:Hp} {s:Shared} {a:Addr} {y v:V} {u r:Value} {o:Option V} {A:Around} {E:Value→Shared→Prop}
theorem Inv.big (I:Inv X pins σ H s):sysModules < s.heap.objs.size:=by
 have h:mainGlobals < s.heap.objs.size:=(I.mod.glob.keeps I.bk).lt
 exact Nat.lt_trans (by decide) h
theorem p0 {Q:Value→Shared→Prop} (hu:A.units+1 < cLine) (I:Inv X pins σ H s) (g:DGet H a y (some v)) (ry:RelV y u) (h:∀ w' s',Inv X pins σ H s'→RelV v w'→Q w' s') :
  wpAny (model X.prog X.w) A (getItem (.ref a) u) Q E s:=by
 rcases g with ⟨kvs,k,e,ey,l⟩ | ⟨kvs,k,b,e,ey,eb,l⟩
 ·subst ey
  obtain ⟨z,hd,vs,rel,dd⟩:=oI I.hok e
  obtain ⟨w',hw,rw'⟩:=RelO.some_of (v:=v) (o:=valueAt vs k) (by rw [l]; exact rel.val k)
  exact wpAny_getItem_of (lE ry) dd.mapOf hw (h w' _ (I.tok _) rw')
 ·subst ey
  cases (show u=Value.ref b from ry)
  obtain ⟨z,hd,xs,rel,dd⟩:=oH I.hok e
  obtain ⟨w',hw,rw'⟩:=RelO.some_of (v:=v) (o:=(atKey xs k).map (·.2)) (by rw [l]; exact rel.val k)
  obtain ⟨p,hp,hp2⟩:=Option.map_eq_some_iff.mp hw
  refine wpAny_getItem_heap (tupleKind_room_in1 hu) (ms I.hok eb) dd hp ?_
  rw [hp2]
  exact h w' _ (I.tok _) rw'
theorem kF {h':Heap} {t':Nat} {ob:HO} (I:Inv X pins σ H s) (mu:Mut (H a)) (hs:Heap.SameBut a s.heap h') (he:∃ q,h'.get? a=some q) (new:ObjOk X.prog X.w (upd H a ob) h' a ob) :
  Inv X pins σ (upd H a ob) { s with heap:=h',toks:=t' } :=
 I.write (x:=a) (e:=a) mu (.inl rfl) (fun b q hb z=>(hs.2 b hb).trans z) he new
theorem pY {P:Program} {w:World} {H':Hp} {h':Heap} {kvs:List (Key × V)} {vs:List (Key × Value)} (z:kvs.length≤sizeLine) (hd:(a == sysModules)=false) (rel:KV kvs vs) (dd:h'.DictOf (bn P w) a vs) :
  ObjOk P w H' h' a (.dK kvs):=⟨z,hd,vs,rel,dd⟩
theorem pZ {H':Hp} {Q:Unit→Shared→Prop} (hu:A.units+1 < cLine) (I:Inv X pins σ H s) (g:DPut H a y v H') (ry:RelV y u) (rv:RelV v r) (h:∀ s',Inv X pins σ H' s'→Q () s') :
  wpAny (model X.prog X.w) A (setItem (.ref a) u r) Q E s:=by
 rcases g with ⟨kvs,k,e,ey,l,eH⟩ | ⟨kvs,k,b,e,ey,eb,l,eH⟩
 ·subst ey eH
  obtain ⟨z,hd,vs,rel,dd⟩:=kd I.hok e
  have hz:vs.length≤sizeLine:=by rw [← rel.length]; exact z
  have hl:(cA kvs k v).length≤sizeLine:=by have:=gt kvs k v; omega
  refine wpAny_setItem_pairs (hsz:=hz) (lE ry) dd fun h' dd' hs=>h _ ?_
  have he:∃ q,h'.get? a=some q:=let ⟨q,_,_,hq,_⟩:=dd'; ⟨q,hq⟩
  exact kF I (by rw [e]; exact True.intro) hs he (pY hl hd (rel.put k rv) dd')
 ·subst ey eH
  cases (show u=Value.ref b from ry)
  obtain ⟨z,hd,xs,rel,dd⟩:=EB I.hok e
  have hz:xs.length≤sizeLine:=by rw [← Paired.length rel]; exact z
  have hl:(cA kvs k v).length≤sizeLine:=by have:=gt kvs k v; omega
  refine wpAny_setItem_heap (hsz:=hz) (tupleKind_room_in1 hu) (ms I.hok eb) dd fun h' dd' hs=>h _ ?_
  obtain ⟨q,es,ep,hq,h2,h3,h4,_,h5⟩:=dd'
  refine kF I (by rw [e]; exact True.intro) hs ⟨q,hq⟩ ⟨hl,hd,_,(rel.put k eb rv).keeps fun c ys ec=>?_,q,es,ep,hq,h2,h3,h4,h5⟩
  rw [aM (D3 ec e (fun z=>nomatch z))]
  exact ec
end
section
variable {X:Cx} {pins:List (Addr × Obj)} {σ:St} {H:Hp} {s:Shared} {a:Addr} {kvs:List (Key × V)} {k:Key} {u:Value} {A:Around} {E:Value→Shared→Prop}
end
def oN (i:Expr):Prop:=∀ ov iv,subscripted i false ov iv=operate [ov,iv] (getItem ov iv)
theorem xH {prog:Program} {w:World} {A:Around} {E:Value→Shared→Prop} {s:Shared} {env:Env} {value slice:Expr} {pos:Pos} {T id:String} {Q:Value→Shared→Prop}
  (hl:typeLookup (.type T) "__getitem__"=pure (some (.builtin id))) (hs:oN slice)
  (h:wpAny (model prog w) A (eval value env) (fun o s₁=>wpAny (model prog w) A (eval slice env) (fun i s₂=>s₂.TypeIs o T∧wpAny (model prog w) A (getItem o i) Q E s₂) E s₁) E s) :
  wpAny (model prog w) A (eval (.Subscript value slice pos) env) Q E s:=by
 refine Subscript_ (wpAny_mono h (fun o s₁ h₁=>wpAny_mono h₁ (fun i s₂ h₂=>?_) fun _ _ x=>x) fun _ _ x=>x)
 obtain ⟨hT,h₂⟩:=h₂
 unfold subscriptTail
 refine wpAny_bind ?_
 rw [getitemInPython_of_ne hT.not_modules]
 refine wpAny_bind (wpAny_specialOf hT hl ?_)
 have fin:wpAny (model prog w) A (subscripted slice false o i) (fun r s₃=>wpAny (model prog w) A (letTemporaryGo value o r >>= fun _=>pure r) Q E s₃) E s₂:=by
  rw [hs o i]
  exact wpAny_operating (wpAny_mono h₂ (fun r s₃ h₃=>wpAny_bind (wpAny_letTemporaryGo (wpAny_pure h₃))) fun _ _ x=>x)
 first
  | exact wpAny_pure (wpAny_bind fin)
  | exact wpAny_bind (wpAny_pure (wpAny_bind fin))
  | exact wpAny_bind fin
theorem na {X:Cx} {pins:List (Addr × Obj)} {σ:St} {H:Hp} {s:Shared} {a:Addr} {y:V} {o:Option V} (I:Inv X pins σ H s) (g:DGet H a y o):s.TypeIs (.ref a) "dict":=by
 rcases g with ⟨kvs,k,e,_,_⟩ | ⟨kvs,k,b,e,_,_,_⟩
 ·obtain ⟨_,_,vs,_,dd⟩:=oI I.hok e
  exact dd.typeIs
 ·obtain ⟨_,_,xs,_,dd⟩:=oH I.hok e
  exact dd.typeIs
def xh (td ty:TE):TE:=fun σ H Q=>td σ H fun x H1=>ty σ H1 fun y H2=>∃ a v,x=.ref a∧DGet H2 a y (some v)∧Q v H2
def xk (td ty tv:TE):TS:=fun D σ H=>tv σ H fun v H1=>td σ H1 fun x H2=>ty σ H2 fun y H3=>∃ a H4,x=.ref a∧DPut H3 a y v H4∧D.nx σ H4
section
variable {X:Cx} {o i e value:Expr} {pos pos' tpos:Pos} {td ty tv:TE}
theorem xZ (hu:X.A.units+1 < cLine) (ho:PE X o td) (hi:PE X i ty) (hs:oN i):PE X (.Subscript o i pos) (xh td ty):=by
 intro pins s σ H Q I h
 refine xH PySem.F.slot_dict_getitem.lookup hs (thn (ho pins s σ H _ I h) fun u s1 ⟨x,H1,I1,rx,q1⟩=>thn (hi pins s1 σ H1 _ I1 q1) fun iv s2 ⟨y,H2,I2,ry,a,v,ex,g,q2⟩=>?_)
 subst ex
 obtain rfl:u=Value.ref a:=rx
 exact ⟨na I2 g,p0 hu I2 g ry fun w' s3 I3 rw'=>⟨v,H2,I3,rw',q2⟩⟩
theorem xS (hu:X.A.units+1 < cLine) (ho:PE X o td) (hi:PE X i ty) (hv:PE X value tv) (hs:swapsWith value (some (.Subscript o i pos')) pos.line X.env=pure false) :
  PS X (.Assign [.Subscript o i pos'] value pos) (xk td ty tv):=by
 intro pins s σ H D I h
 refine wpAny_Assign_Subscript (thn (hv pins s σ H _ I h) fun r s1 ⟨v,H1,I1,rv,q1⟩=>thn (ho pins s1 σ H1 _ I1 q1) fun u s2 ⟨x,H2,I2,rx,q2⟩=>thn (hi pins s2 σ H2 _ I2 q2) fun iv s3 ⟨y,H3,I3,ry,a,H4,ex,g,q3⟩=>?_) hs
 subst ex
 obtain rfl:u=Value.ref a:=rx
 exact pZ hu I3 g ry rv fun s4 I4=>⟨σ,H4,I4,q3⟩
end
theorem mR {P:Program} {w:World} {H:Hp} (h:Heap) (hb:sysModules < h.objs.size):ObjOk P w H (h.push { cls:=.type "dict",data:=.dict #[] }) h.objs.size (.dK []) :=
 ⟨Nat.zero_le _,beq_eq_false_iff_ne.mpr (Ne.symm (Nat.ne_of_lt hb)),[],.nil,Heap.DictOf.new h⟩
def BF:TE:=fun _ H Q=>∀ p,H p=none→Q (.ref p) (upd H p (.dK []))
section
variable {X:Cx} {pos:Pos}
theorem pe_dnewK:PE X (.Dict [] [] pos) BF:=fun pins s σ H Q I h =>
 wpAny_Dict_empty ⟨.ref s.heap.objs.size,_,I.laid (a:=s.heap.objs.size) (o:=.dK []) (t':=s.toks) (fun _ _ q=>Heap.get?_push_of_some _ q) (Nat.le_refl _) (mR s.heap I.big),rfl,h _ (I.hok.fresh (Nat.le_refl _))⟩
end
def jR:List (TE × TE)→St→Hp→(List (V × V)→Hp→Prop)→Prop
 | [],_,H,Q=>Q [] H
 | (tk,tv) :: r,σ,H,Q=>tk σ H fun x H1=>tv σ H1 fun y H2=>jR r σ H2 fun ps H3=>Q ((x,y) :: ps) H3
abbrev VV:List (V × V)→List (Value × Value)→Prop:=Paired fun p q=>RelV p.1 q.1∧RelV p.2 q.2
def PPs (X:Cx) (pos:Pos) (keys:List (Option Expr)) (values:List Expr) (trs:List (TE × TE)):Prop :=
 ∀ (pins:List (Addr × Obj)) (s:Shared) (σ:St) (H:Hp) (Q:List (V × V)→Hp→Prop),Inv X pins σ H s→jR trs σ H Q →
  wpAny (model X.prog X.w) X.A (evalPairs (pairTrees keys values X.env pos)) (fun vs s'=>∃ ps H',Inv X pins σ H' s'∧VV ps vs∧Q ps H') X.xe s
theorem xT {X:Cx} {pos:Pos}:PPs X pos [] [] []:=fun pins s σ H Q I h=>pairTrees_nil_walk ⟨[],H,I,.nil,h⟩
theorem qA {X:Cx} {pos:Pos} {k v:Expr} {ks:List (Option Expr)} {vs:List Expr} {tk tv:TE} {trs:List (TE × TE)} (hk:PE X k tk) (hv:PE X v tv) (hr:PPs X pos ks vs trs) :
  PPs X pos (some k :: ks) (v :: vs) ((tk,tv) :: trs):=fun pins s σ H Q I h =>
 pairTrees_cons_walk (thn (hk pins s σ H _ I h) fun u s1 ⟨x,H1,I1,rx,q1⟩=>thn (hv pins s1 σ H1 _ I1 q1) fun w2 s2 ⟨y,H2,I2,ry,q2⟩ =>
  thn (hr pins s2 σ H2 _ I2 q2) fun ws s3 ⟨ps,H3,I3,rel,q3⟩=>⟨(x,y) :: ps,H3,I3,.cons ⟨rx,ry⟩ rel,q3⟩)
def e9 (kvs more:List (Key × V)):List (Key × V):=more.foldl (fun acc kv=>cA acc kv.1 kv.2) kvs
theorem KV.merge:∀ {more:List (Key × V)} {rs:List (Key × Value)} {kvs:List (Key × V)} {vs:List (Key × Value)},KV more rs→KV kvs vs→KV (e9 kvs more) (merged vs rs):=by
 intro more rs kvs vs r
 unfold KV at r
 induction r generalizing kvs vs with
 | nil=>intro q; exact q
 | @cons p q ps qs h t ih =>
  intro r0
  have e:KV (cA kvs p.1 p.2) (stored vs q.1 q.2):=by
   have:=r0.put p.1 h.2
   rw [← h.1]; exact this
  exact ih e
theorem iD:∀ (more kvs:List (Key × V)),(e9 kvs more).length≤kvs.length+more.length
 | [],kvs=>by show kvs.length≤kvs.length+0; omega
 | p :: r,kvs=>by
  have h1:=iD r (cA kvs p.1 p.2)
  have h2:=gt kvs p.1 p.2
  show (e9 (cA kvs p.1 p.2) r).length≤_
  rw [List.length_cons]; omega
theorem kh {P:Program} {w:World}:∀ {kvs:List (Key × V)} {ws:List (Value × Value)},VV (kvs.map fun kv=>(kV kv.1,kv.2)) ws→∃ rs,Carries (bn P w) ws rs∧KV kvs rs
 | [],_,r=>by rw [List.map_nil] at r; cases r; exact ⟨[],True.intro,.nil⟩
 | p :: kvs,_,r=>by
  rw [List.map_cons] at r
  cases r with
  | @cons a b as bs h t =>
   obtain ⟨rs,c,q⟩:=kh (P:=P) (w:=w) t
   obtain ⟨b1,b2⟩:=b
   exact ⟨(p.1,b2) :: rs,⟨lE h.1,rfl,c⟩,.cons ⟨rfl,h.2⟩ q⟩
def xf (trs:List (TE × TE)):TE:=fun σ H Q=>∀ p,H p=none→jR trs σ (upd H p (.dK [])) fun ps H2=>H2 p=some (.dK [])∧∃ kvs:List (Key × V),ps=kvs.map (fun kv=>(kV kv.1,kv.2))∧kvs.length≤15∧Q (.ref p) (upd H2 p (.dK (e9 [] kvs)))
theorem xY {X:Cx} {pos:Pos} {keys:List (Option Expr)} {values:List Expr} {trs:List (TE × TE)} (h:PPs X pos keys values trs) (hall:keys.all (·.isSome)=true) (hl:keys.length=values.length) (h0:keys≠[])
  (h15:keys.length≤15):PE X (.Dict keys values pos) (xf trs):=by
 intro pins s σ H Q I q
 have hn:=I.hok.fresh (Nat.le_refl s.heap.objs.size)
 have I1:=I.laid (a:=s.heap.objs.size) (o:=.dK []) (h':=s.heap.push { cls:=.type "dict",data:=.dict #[] }) (t':=s.toks) (fun _ _ q=>Heap.get?_push_of_some _ q) (Nat.le_refl _) (mR s.heap I.big)
 refine wpAny_Dict_walk (knd:=bn X.prog X.w) hall hl h0 h15 (thn (h pins _ σ _ _ I1 (q _ hn)) fun ws s2 ⟨ps,H2,I2,rel,e,kvs,ep,lk,q2⟩=>?_)
 subst ep
 obtain ⟨rs,c,rk⟩:=kh (P:=X.prog) (w:=X.w) rel
 obtain ⟨z,hd,vs0,r0,dd⟩:=kd I2.hok e
 cases r0
 refine ⟨rs,c,dd,fun h' dd' hs=>⟨.ref s.heap.objs.size,_,?_,rfl,q2⟩⟩
 have hz:(e9 [] kvs).length≤sizeLine:=by
  have h1:=iD kvs []
  rw [List.length_nil] at h1
  rw [sizeLine_eq]; omega
 have he:∃ q,h'.get? s.heap.objs.size=some q:=let ⟨q,_,_,hq,_⟩:=dd'; ⟨q,hq⟩
 exact kF I2 (by rw [e]; exact True.intro) hs he (pY hz hd (rk.merge .nil) dd')
section
variable {X:Cx} {pins:List (Addr × Obj)} {σ:St} {H:Hp} {s:Shared} {a:Addr} {y d:V} {u r:Value} {o:Option V} {A:Around} {E:Value→Shared→Prop}
end
section
variable {X:Cx} {o e f:Expr} {apos cpos:Pos} {td ty tx:TE}
end
section
variable {X:Cx} {pins:List (Addr × Obj)} {σ:St} {H:Hp} {s:Shared} {a:Addr} {kvs:List (Key × V)} {A:Around} {E:Value→Shared→Prop}
end
section
variable {X:Cx} {pins:List (Addr × Obj)} {σ:St} {H:Hp} {s:Shared} {a:Addr} {y:V} {u:Value} {A:Around} {E:Value→Shared→Prop}
end
end L2
namespace L2
open PySem PySem.Spec PyProof.Rows
section
variable {X:Cx}
end
section
variable {κ:Type} [DecidableEq κ]
end
end L2
set_option maxHeartbeats 4000000
namespace L2
open PySem PySem.Spec PyProof.Rows
theorem yP {α β:Type} {l:List α} {f:α→β→Sem (ForInStep β)} {g:β→α→β} (h:∀ x∈l,∀ c,f x c=pure (.yield (g c x))):∀ c,forIn l c f=pure (l.foldl g c):=by
 induction l with
 | nil=>intro c; rfl
 | cons x l ih =>
  intro c
  rw [List.forIn_cons,h x List.mem_cons_self,pure_bind]
  exact ih (fun y hy=>h y (List.mem_cons_of_mem _ hy)) (g c x)
def dA (env:Env) (acc:List (Str × Addr)) (x:Str × NameKind):List (Str × Addr) :=
 if x.2 == NameKind.free then (x.1,(env.cells.lookup x.1).getD 0) :: acc else acc
def cX (env:Env) (names:List (Str × NameKind)):List (Str × Addr):=names.foldl (dA env) []
theorem ke {scope:Scope} {env:Env} (h:∀ y∈scope.names,y.2=.free→∃ c,env.cells.lookup y.1=some c):closureFor scope env=pure (cX env scope.names):=by
 simp only [closureFor]
 rw [yP (g:=dA env) (fun x hx c=>by
  obtain ⟨n,kind⟩:=x
  by_cases hk:kind=.free
  ·obtain ⟨a,e⟩:=h _ hx hk
   subst hk
   have e':env.cells.lookup n=some a:=e
   simp [cellOf,dA,e']
  ·have hb:(kind == NameKind.free)=false:=by simpa using hk
   simp [dA,hb])]
 rfl
theorem kf {env:Env}:∀ (names:List (Str × NameKind)) (acc:List (Str × Addr)) (p:Str × Addr),
  p∈names.foldl (dA env) acc→p∈acc∨((p.1,NameKind.free)∈names∧p.2=(env.cells.lookup p.1).getD 0)
 | [],_,_,h=>.inl h
 | (n,k) :: r,acc,p,h=>by
  rw [List.foldl_cons] at h
  rcases kf r _ p h with q | ⟨q,e⟩
  ·unfold dA at q
   by_cases hk:(k == NameKind.free)=true
   ·rw [if_pos hk] at q
    rcases List.mem_cons.mp q with z | z
    ·subst z
     have hk':k=NameKind.free:=by simpa using hk
     subst hk'
     exact .inr ⟨List.mem_cons_self,rfl⟩
    ·exact .inl z
   ·rw [if_neg hk] at q
    exact .inl q
  ·exact .inr ⟨List.mem_cons_of_mem _ q,e⟩
theorem jt {env:Env}:∀ (names:List (Str × NameKind)) (acc:List (Str × Addr)) (p:Str × Addr),p∈acc→p∈names.foldl (dA env) acc
 | [],_,_,h=>h
 | x :: r,acc,p,h=>by
  rw [List.foldl_cons]
  refine jt r _ p ?_
  unfold dA
  split
  ·exact List.mem_cons_of_mem _ h
  ·exact h
theorem kg {env:Env} {n:Str}:∀ (names:List (Str × NameKind)) (acc:List (Str × Addr)),(n,NameKind.free)∈names→∃ c,(n,c)∈names.foldl (dA env) acc
 | (m,k) :: r,acc,h=>by
  rw [List.foldl_cons]
  rcases List.mem_cons.mp h with e | e
  ·cases e
   exact ⟨(env.cells.lookup n).getD 0,jt r _ _ (by unfold dA; rw [if_pos (show (((n,NameKind.free):Str × NameKind).2 == NameKind.free)=true from rfl)]; exact List.mem_cons_self)⟩
  ·exact kg r _ e
theorem fq {α:Type}:∀ {l:List (Str × α)} {n:Str} {c:α},(n,c)∈l→∃ c',l.lookup n=some c'
 | (m,d) :: r,n,c,h=>by
  rw [List.lookup_cons]
  cases hb:n == m with
  | true=>exact ⟨d,rfl⟩
  | false =>
   rcases List.mem_cons.mp h with e | e
   ·cases e
    simp at hb
   ·exact fq e
theorem mS {env:Env} {names:List (Str × NameKind)} {n:Str} (h:(n,NameKind.free)∈names):∃ c,(cX env names).lookup n=some c :=
 let ⟨_,e⟩:=kg (env:=env) names [] h
 fq e
theorem k8 {env:Env} {names:List (Str × NameKind)} {n:Str} {c:Addr} (h:∀ y∈names,y.2=.free→∃ c,env.cells.lookup y.1=some c) (e:(cX env names).lookup n=some c):env.cells.lookup n=some c:=by
 rcases kf names [] (n,c) (PySem.mem_of_lookup e) with q | ⟨q,z⟩
 ·simp at q
 ·obtain ⟨a,ea⟩:=h _ q rfl
  have z':c=(env.cells.lookup n).getD 0:=z
  have ea':env.cells.lookup n=some a:=ea
  rw [ea'] at z'
  rw [ea',z']
  rfl
theorem ia {env:Env}:∀ {names:List (Str × NameKind)} {x:Str} {k:NameKind},
  (names.map fun (n,k)=>if (k == NameKind.free && env.scope.kind == .function && env.kindOf n == some .cell) then (n,NameKind.cell) else (n,k)).lookup x=some k →
  names.lookup x=some k∨(names.lookup x=some .free∧k=.cell)
 | [],_,_,h=>by simp at h
 | (n,k0) :: r,x,k,h=>by
  rw [List.map_cons] at h
  cases hx:x == n with
  | true =>
   rcases Bool.eq_false_or_eq_true (k0 == NameKind.free && env.scope.kind == .function && env.kindOf n == some .cell) with hc | hc
   ·simp only [hc,if_true,List.lookup_cons,hx] at h
    have hk:k0=.free:=by
     simp only [Bool.and_eq_true,beq_iff_eq] at hc
     exact hc.1.1
    refine .inr ⟨?_,?_⟩
    ·simp only [List.lookup_cons,hx,hk]
    ·exact (Option.some.inj h).symm
   ·simp only [hc,Bool.false_eq_true,if_false,List.lookup_cons,hx] at h
    refine .inl ?_
    simp only [List.lookup_cons,hx]
    exact h
  | false =>
   have h':(r.map fun (n,k)=>if (k == NameKind.free && env.scope.kind == .function && env.kindOf n == some .cell) then (n,NameKind.cell) else (n,k)).lookup x=some k:=by
    rcases Bool.eq_false_or_eq_true (k0 == NameKind.free && env.scope.kind == .function && env.kindOf n == some .cell) with hc | hc
    ·simp only [hc,if_true,List.lookup_cons,hx] at h
     exact h
    ·simp only [hc,Bool.false_eq_true,if_false,List.lookup_cons,hx] at h
     exact h
   simp only [List.lookup_cons,hx]
   exact ia h'
theorem ib {env:Env}:∀ {names:List (Str × NameKind)} {x:Str},names.lookup x=some .free →
  (names.map fun (n,k)=>if (k == NameKind.free && env.scope.kind == .function && env.kindOf n == some .cell) then (n,NameKind.cell) else (n,k)).lookup x=some .cell ∨
  (names.map fun (n,k)=>if (k == NameKind.free && env.scope.kind == .function && env.kindOf n == some .cell) then (n,NameKind.cell) else (n,k)).lookup x=some .free
 | [],_,h=>by simp at h
 | (n,k0) :: r,x,h=>by
  rw [List.map_cons]
  cases hx:x == n with
  | true =>
   simp only [List.lookup_cons,hx] at h
   rcases Bool.eq_false_or_eq_true (k0 == NameKind.free && env.scope.kind == .function && env.kindOf n == some .cell) with hc | hc
   ·refine .inl ?_
    simp only [hc,if_true,List.lookup_cons,hx]
   ·refine .inr ?_
    simp only [hc,Bool.false_eq_true,if_false,List.lookup_cons,hx]
    exact h
  | false =>
   simp only [List.lookup_cons,hx] at h
   have ih:=ib (env:=env) h
   rcases Bool.eq_false_or_eq_true (k0 == NameKind.free && env.scope.kind == .function && env.kindOf n == some .cell) with hc | hc
   ·simp only [hc,if_true,List.lookup_cons,hx]
    exact ih
   ·simp only [hc,Bool.false_eq_true,if_false,List.lookup_cons,hx]
    exact ih
def dF (js:List (Option Nat)) (σ:St):St:=js.map fun j=>match j with
 | some j=>(σ[j]?).join
 | none=>none
end L2
namespace L2
open PySem PySem.Spec PyProof.Rows
def PTs (X:Cx) (ifs:List Expr) (tt:TT):Prop :=
 ∀ (pins:List (Addr × Obj)) (s:Shared) (σ:St) (H:Hp) (Q:Bool→Hp→Prop),Inv X pins σ H s→tt σ H Q →
  wpAny (model X.prog X.w) X.A (forIn ifs true fun c r=>if r=true then do let ok ← isTrue c X.env (eval c X.env); pure (ForInStep.yield ok) else pure (ForInStep.yield r)) (TP X pins σ Q) X.xe s
def EF:TT:=fun _ H Q=>Q true H
theorem pts_nil {X:Cx}:PTs X [] EF:=fun _ _ _ H _ I h=>wpAny_tests_nil ⟨H,I,h⟩
theorem xO {X:Cx} {c:Expr} {tc:TT} (hc:PT X c tc):PTs X [c] tc:=fun pins s σ H Q I h=>wpAny_tests_one (hc pins s σ H Q I h)
def Cg (g:TG) (tt:TT) (te:TE) (D:Addr) (x:V) (τ:St) (H:Hp) (N:St→Hp→Prop):Prop :=
 g x τ H fun τ4 H4=>tt τ4 H4 fun b H5=>if b=true then te τ4 H5 fun v H6=>∃ xs,H6 D=some (.lst xs)∧xs.length < sizeLine∧N τ4 (upd H6 D (.lst (xs++[v]))) else N τ4 H5
def xr (J:It) (g:TG) (tt:TT) (te:TE) (σ0:St) (H1:Hp) (D:Addr) (Q:VK):Prop :=
 ∃ W:Nat→Nat→St→Hp→Prop,(∃ m,W 0 m σ0 (upd H1 D (.lst []))) ∧
  ∀ i m τ H2,W i m τ H2→(J.stop i H2∧Q (.ref D) H2)∨(J.go i H2∧∃ N:St→Hp→Prop,(∀ τ' H',N τ' H'→∃ m',m' < m∧W (i+1) m' τ' H')∧∀ x H3,J.yld i H2 x H3→Cg g tt te D x τ H3 N)
def tLC (wi:TI) (g:TG) (tt:TT) (te:TE) (js:List (Option Nat)):TE:=fun σ H Q =>
 wi σ H fun J H1=>∀ D,H1 D=none→xr J g tt te (dF js σ) H1 D Q
theorem thF {α:Type} {t:Sem α} {Q Q':α→Shared→Prop} {M:Model} {A:Around} {E:Value→Shared→Prop} {s:Shared} (h:wpAny M A t Q (fun _ _=>False) s) (hQ:∀ a s,Q a s→Q' a s):wpAny M A t Q' E s :=
 wpAny_mono h hQ fun _ _ x=>x.elim
section
variable {X:Cx} {elt tg iter:Expr} {ifs:List Expr} {scope:Scope} {pos:Pos} {ns:List Str} {js:List (Option Nat)} {wi:TI} {g:TG} {tt:TT} {te:TE}
end
end L2
namespace L2
open PySem PySem.Spec PyProof.Rows
section
variable {X:Cx}
theorem oK:∀ (bs:List Bool),(List.range bs.length).all (fun i=>bs.getD i true)=bs.all id:=fun bs=>by
 rw [Bool.eq_iff_iff,List.all_eq_true,List.all_eq_true]
 constructor
 ·intro h b hb
  obtain ⟨i,hi,e⟩:=List.mem_iff_getElem.mp hb
  have q:=h i (List.mem_range.mpr hi)
  rw [List.getD_eq_getElem?_getD,List.getElem?_eq_getElem hi,e] at q
  exact q
 ·intro h i hi
  have hi':=List.mem_range.mp hi
  rw [List.getD_eq_getElem?_getD,List.getElem?_eq_getElem hi']
  exact h _ (List.getElem_mem hi')
theorem rD (hc:X.calm=true):CallR X (.builtin "all") (fun xs H Q=>∃ (p:Addr) (bs:List Bool),xs=[.ref p]∧SqL X.K H p (bs.map V.bl)∧Q (.bl (bs.all id)) H):=by
 intro pins s σ H xs us Q I r h
 obtain ⟨p,bs,rfl,hp,q⟩:=h
 obtain ⟨u,rfl,ru⟩:=cz r
 cases ru
 obtain ⟨its,rv,pl,hz⟩:=I.list hp
 have hl:its.length=bs.length:=by rw [← rv.length,List.length_map]
 have hlt:p < s.heap.objs.size:=by
  obtain ⟨o,n,e,_⟩:=id pl
  exact Heap.lt_size e
 refine call_all_walk (wpAny_pyIter_list pl.isList ?_)
 refine ⟨s.heap.objs.size,[s.heap.objs.size,p],[s.heap.objs.size],its.toArray.size,fun i v=>its.toArray[i]?=some v,_,fun i=>bs.getD i true,rfl,Walks.list (A:=X.A.in1) (show X.A.in1.handled=none from I.ok.hd hc) s.heap.objs.size p (Nat.ne_of_lt hlt) its.toArray,?_,?_,?_⟩
 ·exact ⟨⟨_,Heap.get?_push_size _ rfl,rfl,rfl⟩,pl.isList.push _⟩
 ·intro i v s' Q' E' hv hq
  have hv':its[i]?=some v:=by simpa using hv
  have hi:i < bs.length:=by
   rw [← hl]
   exact (List.getElem?_eq_some_iff.mp hv').1
  obtain ⟨u,hu,ru⟩:=rv.get (i:=i) (x:=V.bl bs[i]) (by rw [List.getElem?_map,List.getElem?_eq_getElem hi]; rfl)
  rw [hu] at hv'
  cases hv'
  cases ru
  have e:bs.getD i true=bs[i]:=by rw [List.getD_eq_getElem?_getD,List.getElem?_eq_getElem hi]; rfl
  have hq':Q' (bs.getD i true) s':=hq
  rw [e] at hq'
  exact wpAny_truthy_bool hq'
 ·intro h' tk hk
  have e:(List.range its.toArray.size).all (fun i=>bs.getD i true)=bs.all id:=by
   rw [← oK bs,List.size_toArray,hl]
  rw [e]
  refine ⟨.bl (bs.all id),H,I.kept (t':=tk) fun b o z=>hk b o ?_ (Heap.get?_push_of_some _ z),rfl,q⟩
  intro z'
  have z'':b=s.heap.objs.size:=by simpa using z'
  exact Nat.ne_of_lt (Heap.lt_size z) z''
theorem rC:CallR X (.builtin "isinstance") (fun xs H Q=>∃ x t n b,xs=[x,.ty n]∧TyOf X.K H x t∧PySem.W.kitOne X.K t (.type n)=some b∧Q (.bl b) H):=by
 intro pins s σ H xs us Q I r h
 obtain ⟨x,t,n,b,rfl,ty,e,q⟩:=h
 obtain ⟨u,w',rfl,r1,r2⟩:=w8 r
 cases r2
 exact pB I r1 ty e fun tk=>⟨.bl b,H,I.tok _,rfl,q⟩
end
section
open PySem.SeqAt
variable {X:Cx} {pins:List (Addr × Obj)} {σ:St} {H:Hp} {s:Shared}
end
section
variable {X:Cx}
theorem Inv.turnedLaid {pins:List (Addr × Obj)} {σ:St} {H:Hp} {s:Shared} {h':Heap} {t':Nat} {fp:List Addr} {p:Addr} {o:HO} (I:Inv X pins σ H s) (f:∀ b∈fp,fy X pins H b) (hp:s.heap.objs.size≤p)
  (k:∀ b ob,b ∉ fp→s.heap.get? b=some ob→h'.get? b=some ob) (th:∀ b∈fp,∃ ob,h'.get? b=some ob) (new:ObjOk X.prog X.w (upd H p o) h' p o):Inv X pins σ (upd H p o) { s with heap:=h',toks:=t' }:=by
 have hn:H p=none:=I.hok.fresh hp
 have ne:∀ b ob,s.heap.get? b=some ob→b≠p:=fun b ob e=>Nat.ne_of_lt (Nat.lt_of_lt_of_le (Heap.lt_size e) hp)
 have nf:∀ b u,H b=some u→b ∉ fp:=fun b u e z=>by rw [(f b z).1] at e; cases e
 refine I.step (g':=s.gens) (d':=s.drawn) (ch:=fp) (fun b hb=>⟨(f b hb).2.2.2.1,(f b hb).2.1,(f b hb).2.2.2.2.1,(f b hb).2.2.2.2.2⟩) (fun b ob _ _ hc e _=>k b ob hc e) (fun b ob _ _ hc e _=>⟨ob.slots,k b ob hc e⟩)
  (fun b ob _ e n=>by rw [aM (ne b ob e)]; exact n) (fun b ob hc e=>⟨ob,k b ob hc e⟩) (fun b xs e=>by rw [aM (bH e hn)]; exact e) (fun b ob u e=>by rw [aM (bH e hn)]; exact e)
  (fun b ps e=>⟨#[],by rw [aM (bH e hn),e]; simp⟩) (fun m hm=>?_) (fun b u e=>?_) I.bare
 ·obtain ⟨ob,es,ep,ho,r⟩:=hm
  exact ⟨ob,es,ep,k _ ob (fun z=>(f _ z).2.1 rfl) ho,r⟩
 ·by_cases hb:b=p
  ·subst hb
   rw [aL] at e
   cases e
   exact new
  ·rw [aM hb] at e
   refine (I.hok b u e).stay (fun c v hc q=>k c v ?_ q) (fun c q=>by rw [aM (bH q hn)]; exact q) fun c xs q=>by rw [aM (bH q hn)]; exact q
   rcases hc with z | z
   ·rw [z]; exact nf b u e
   ·exact nf c _ z
def DJ (K:PySem.W.Frag) (te tk:TE):TE:=fun σ H Q=>te σ H fun x H1=>tk σ H1 fun y H2=>∃ a xs,x=.ref a∧y=.int (-1)∧SqL K H2 a xs∧∀ p,H2 p=none→Q (.ref p) (upd H2 p (.lst xs.reverse))
theorem iI:∀ {xs:List V} {us:List Value},Vals xs us→Vals xs.reverse us.reverse
 | _,_,.nil=>.nil
 | _,_,.cons r t=>by
  rw [List.reverse_cons,List.reverse_cons]
  exact (iI t).append (.cons r .nil)
theorem xX {e k:Expr} {te tk:TE} {p2 pos:Pos} (he:PE X e te) (hk:PE X k tk):PE X (.Subscript e (.Slice none none (some k) p2) pos) (DJ X.K te tk):=by
 intro pins s σ H Q I h
 refine Subscript_ (thn (he pins s σ H _ I h) fun v s1 ⟨x,H1,I1,r1,q1⟩=>?_)
 refine wpAny_Slice ?_
 rw [evalPart_none]
 refine wpAny_pure (wpAny_pure ?_)
 rw [evalPart_some]
 refine thn (hk pins s1 σ H1 _ I1 q1) fun vk s3 ⟨y,H3,I3,r3,q3⟩=>?_
 obtain ⟨a,xs,rfl,rfl,hx,q⟩:=q3
 obtain ⟨t,rfl⟩:=r3
 cases r1
 have I4:Inv X pins σ H3 { s3 with heap:=s3.heap.push { cls:=.type "slice",data:=.fields #[.none,.none,.int (-1) t] } }:=I3.kept (t':=s3.toks) fun b ob q=>Heap.get?_push_of_some _ q
 obtain ⟨its,r,ht,hz⟩:=I4.list hx
 show wpAny (model X.prog X.w) X.A (subscriptTail e (.Slice none none (some k) p2) (.ref a) (.ref s3.heap.objs.size)) (EP X pins σ Q) X.xe { s3 with heap:=s3.heap.push { cls:=.type "slice",data:=.fields #[.none,.none,.int (-1) t] } }
 refine tail_any (ops:=[.ref a,.ref s3.heap.objs.size]) ht.isList.typeIs slot_list_getitem.lookup ?_ (by with_unfolding_all rfl)
 have hlen:=r.length
 refine wpAny_getItem_list_slice ht.isList (Heap.IsSliceOf.new ..) .none .none (.int (-1) t) (by simp) ?_ (by rw [List.size_toArray] <;> omega)
 rw [PySem.W.krv_pick]
 refine ⟨.ref _,_,I4.laid (t':=s3.toks) (o:=.lst xs.reverse) (fun b ob q=>Heap.get?_push_of_some _ q) (Nat.le_refl _) ?_,rfl,q _ (I4.hok.fresh (Nat.le_refl _))⟩
 exact ⟨by rw [List.length_reverse]; exact hz,its.reverse,0,iI r,Heap.get?_push_size _ rfl⟩
end
end L2
namespace L2
open PySem PySem.Spec PyProof.Rows
def Kn (P:Program) (w:World) (K:PySem.W.Frag) (mg:Str→Option Value) (base:Heap) (k:Nat) (x:Str) (ps:List Str) (sp:Sp):Prop :=
 ∃ f fd,FnOk P w K mg base CX0 k f fd ps sp∧mg x=some (.ref f)∧PySem.W.keepIn K (.ref f)=true∧Binds K fd ps []
theorem Kn.mono {P:Program} {w:World} {K:PySem.W.Frag} {mg:Str→Option Value} {base:Heap} {j k:Nat} {x:Str} {ps:List Str} {sp:Sp} (G:Kn P w K mg base j x ps sp) (h:j≤k):Kn P w K mg base k x ps sp :=
 let ⟨f,fd,a,b,c,d⟩:=G
 ⟨f,fd,a.mono h,b,c,d⟩
section
variable {X:Cx} {k:Nat} {x:Str} {ps:List Str} {sp:Sp} {p pos:Pos} {e:Expr} {es:List Expr} {t:TA}
theorem xo (G:Kn X.prog X.w X.K X.mg X.base k x ps sp) (hr:Room k X.A) (hg:Gl X x) (ha:PA X (e :: es) t) (hdb:(x == ("__debug__" : Str))=false:=by decide)
  (he:starEach (e :: es) X.env=(false,eval e X.env) :: starEach es X.env:=by rfl) (hpl:(backTo pos (starEach es X.env)).any (·.1)=false:=by rfl) :
  PE X (.Call (.Name x p) (e :: es) [] pos) (nR sp [] E0 t):=by
 obtain ⟨f,fd,F,hm,hk,hb⟩:=G
 exact yb F hr hg hm hk hb .nil D0 ha hdb he hpl
end
def EG (K:PySem.W.Frag):List V→Hp→VK→Prop:=fun xs H Q=>∃ x n,xs=[x]∧DH K x H n∧Q (.int n) H
def xM (K:PySem.W.Frag):List V→Hp→VK→Prop:=fun xs H Q=>∃ p ys,xs=[.ref p]∧(SqL K H p ys∨SqT K H p ys)∧∀ l,H l=none→Q (.ref l) (upd H l (.lst ys))
def BP (K:PySem.W.Frag):List V→Hp→VK→Prop:=fun xs H Q=>∃ p ys,xs=[.ref p]∧((SqL K H p ys∧∀ l,H l=none→Q (.ref l) (upd H l (.tup ys)))∨(SqT K H p ys∧Q (.ref p) H))
def EH (K:PySem.W.Frag):List V→Hp→VK→Prop:=fun xs H Q=>∃ (p:Addr) (bs:List Bool),xs=[.ref p]∧SqL K H p (bs.map V.bl)∧Q (.bl (bs.all id)) H
section
variable {X:Cx} {K:PySem.W.Frag}
theorem EL (hK:X.K=K):CallR X (.builtin "len") (EG K):=by subst hK; exact rB
theorem yq (hK:X.K=K):CallR X (.type "list") (xM K):=by subst hK; exact mV
theorem Cm (hK:X.K=K):CallR X (.type "tuple") (BP K):=by subst hK; exact lx
theorem EQ (hK:X.K=K) (hc:X.calm=true):CallR X (.builtin "all") (EH K):=by subst hK; exact rD hc
theorem EN (hK:X.K=K):IxR X (nU K):=by subst hK; exact ix_list
theorem EK (hK:X.K=K):SlR X (BQ K):=by subst hK; exact xK
variable {tg l:Expr} {tl:TE} {es:List Expr} {t:TGs} {n k:Nat} {pos p p2 cpos apos:Pos}
end
end L2
namespace L2
open PySem PySem.Spec PyProof.Rows
def sgn (c:Nat):V:=.str ⟨#[c]⟩
def Its (z:Str):It:=⟨fun i _=>i < z.cps.size,fun i H x H'=>H'=H∧∃ c,z.cps[i]?=some c∧x=sgn c,fun i _=>z.cps.size≤i⟩
theorem qm {P:Program} {w:World} {K:PySem.W.Frag} {tg:Expr} (it:Addr) (z:Str) (t:Tok) (ty:String) (hty:ty="str_ascii_iterator"∨ty="str_iterator") :
  Turn P w K tg (Its z) [it] it (fun i h=>h.IsStrIter it ty z t i) where
 mem:=by simp
 obj:=fun i h st b hb=>by
  have e:b=it:=by simpa using hb
  subst e
  obtain ⟨o,e,c,d⟩:=st
  exact ⟨o,e,fun v q=>by rw [d] at q; cases q⟩
 keep:=fun i h h' st k=>let ⟨o,e,r⟩:=st; ⟨o,k it (by simp) o e,r⟩
 item:=by
  intro X hP hw hK hc i pins s σ H E I hf st hg
  subst hP hw hK
  obtain ⟨f0,f1,f2,f3,f4,f5⟩:=hf it (by simp)
  have W:Walks X.prog X.w X.A it [it] [it] z.cps.size (SignAt z) (fun i h=>h.IsStrIter it ty z t i):=by
   rcases hty with rfl | rfl
   ·exact Walks.strAscii (I.ok.hd hc) it z t
   ·exact Walks.strWide (I.ok.hd hc) it z t
  refine W.item i s _ _ hg st fun v h' tk hv st' kk=>?_
  obtain ⟨c,u,hcv,rfl⟩:=hv
  have I1:Inv X pins σ H { s with heap:=h',toks:=tk }:=I.turned (fun b o hb e=>kk b o (by simpa using hb) e) f0 f1 f3 f4 f5
  obtain ⟨o,e,ec,ed⟩:=id st'
  refine ⟨_,rfl,lF (s:={ s with heap:=h',toks:=tk }) (n:=ty) e ec ed (by rcases hty with rfl | rfl <;> decide) ⟨sgn c,H,I1,⟨u,rfl⟩,⟨rfl,c,hcv,rfl⟩,st',fun b hb=>(hf b hb).1⟩⟩
 done:=by
  intro X hP hw hK hc i pins s σ H E I hf st hg
  subst hP hw hK
  obtain ⟨f0,f1,f2,f3,f4,f5⟩:=hf it (by simp)
  have hle:z.cps.size≤i:=hg
  rcases hty with rfl | rfl
  ·exact wpAny_pyNext_ascii_end (I.ok.hd hc) st (by simpa using hle) fun h' he=>⟨rfl,I.turned (t':=s.toks) (fun b o hb e=>he b o hb e) f0 f1 f3 f4 f5⟩
  ·exact wpAny_pyNext_wide_end (I.ok.hd hc) st (by simpa using hle) fun h' he=>⟨rfl,I.turned (t':=s.toks) (fun b o hb e=>he b o hb e) f0 f1 f3 f4 f5⟩
 self:=fun A i s Q E st h=>by
  rcases hty with rfl | rfl
  ·exact wpAny_pyIter_striter_ascii st h
  ·exact wpAny_pyIter_striter_wide st h
section
variable {X:Cx} {tg:Expr} {K:PySem.W.Frag}
def df (z:Str):List V:=z.cps.toList.map sgn
theorem jo:∀ {xs:List V} {us:List Value},xs.length=us.length→(∀ (i:Nat) x u,xs[i]?=some x→us[i]?=some u→RelV x u)→Vals xs us
 | [],[],_,_=>.nil
 | [],_ :: _,h,_=>by cases h
 | _ :: _,[],h,_=>by cases h
 | x :: xs,u :: us,h,f=>.cons (f 0 x u rfl rfl) (jo (Nat.succ.inj h) fun i y v a b=>f (i+1) y v (by simpa using a) (by simpa using b))
theorem kG (hc:X.calm=true):CallR X (.type "list") (fun xs H Q=>∃ z,xs=[.str z]∧z.cps.size≤sizeLine∧∀ l,H l=none→Q (.ref l) (upd H l (.lst (df z)))):=by
 intro pins s σ H xs us Q I r h
 obtain ⟨z,rfl,hz,q⟩:=h
 obtain ⟨u,rfl,t,rfl⟩:=cz r
 refine call_list_str (I.ok.hd hc) z t (fun h' tk acc c' hk ho hi=>?_) hz
 have hl:(df z).length=acc.toList.length:=by
  unfold df
  rw [List.length_map,Array.length_toList,Array.length_toList,hi.1]
 have rv:Vals (df z) acc.toList:=jo hl fun i x v a b=>by
  obtain ⟨c,tk',hcv,rfl⟩:=hi.2 i v (by simpa using b)
  unfold df at a
  rw [List.getElem?_map] at a
  have e:z.cps.toList[i]?=some c:=by simpa using hcv
  rw [e] at a
  cases a
  exact ⟨_,rfl⟩
 refine ⟨.ref s.heap.objs.size,_,I.laid (t':=tk) (o:=.lst (df z)) hk (Nat.le_refl _) ⟨?_,acc.toList,c',rv,by simpa using ho⟩,rfl,q _ I.fresh⟩
 unfold df
 rw [List.length_map,Array.length_toList]
 exact hz
def EV (xs:List Nat) (lo hi:Option Int):List Nat:=(xs.drop (HT.sIx xs.length 0 lo)).take (HT.sIx xs.length xs.length hi - HT.sIx xs.length 0 lo)
end
end L2
namespace L2
open PySem PySem.Spec PyProof.Rows
section
variable {l l':List Addr} {H H':Hp} {a b:Addr} {o:HO}
end
section
variable {K:PySem.W.Frag}
end
end L2
namespace L2
open PySem PySem.Spec PyProof.Rows
section
variable {X:Cx} {tg:Expr} {K:PySem.W.Frag}
theorem Inv.turnedMany {pins:List (Addr × Obj)} {σ:St} {H:Hp} {s:Shared} {h':Heap} {t':Nat} {fp:List Addr} (I:Inv X pins σ H s) (f:∀ b∈fp,fy X pins H b)
  (k:∀ b ob,b ∉ fp→s.heap.get? b=some ob→h'.get? b=some ob):Inv X pins σ H { s with heap:=h',toks:=t' }:=by
 have nf:∀ b u,H b=some u→b ∉ fp:=fun b u e z=>by rw [(f b z).1] at e; cases e
 refine I.step (g':=s.gens) (d':=s.drawn) (ch:=fp) (fun b hb=>⟨(f b hb).2.2.2.1,(f b hb).2.1,(f b hb).2.2.2.2.1,(f b hb).2.2.2.2.2⟩) (fun b ob _ _ hc e _=>k b ob hc e) (fun b ob _ _ hc e _=>⟨ob.slots,k b ob hc e⟩)
  (fun _ _ _ _ n=>n) (fun b ob hc e=>⟨ob,k b ob hc e⟩) (fun _ _ e=>e) (fun _ _ _ e=>e) (fun b ps e=>⟨#[],by rw [e]; simp⟩) (fun m hm=>?_) (fun b u e=>?_) I.bare
 ·obtain ⟨ob,es,ep,ho,r⟩:=hm
  exact ⟨ob,es,ep,k _ ob (fun z=>(f _ z).2.1 rfl) ho,r⟩
 ·refine (I.hok b u e).stay (fun c v hc q=>k c v ?_ q) (fun _ q=>q) fun _ _ q=>q
  rcases hc with z | z
  ·rw [z]; exact nf b u e
  ·exact nf c _ z
def Itz (K:PySem.W.Frag) (a b:Addr):It :=
 ⟨fun i H=>∃ xs ys x y,SqL K H a xs∧SqL K H b ys∧xs[i]?=some x∧ys[i]?=some y,
  fun i H v H'=>∃ p x y,v=.ref p∧H p=none∧H'=upd H p (.tup [x,y])∧(∀ xs,SqL K H a xs→xs[i]?=some x)∧(∀ ys,SqL K H b ys→ys[i]?=some y),
  fun i H=>∃ xs ys,SqL K H a xs∧SqL K H b ys∧(xs.length≤i∨ys.length≤i)⟩
theorem ql {P:Program} {w:World} {elts:List Expr} {k:Nat} {tp:Pos} (z TI TO i1 i2 a b:Addr) (D:ZipApart z TI TO i1 i2 a b) :
  Turn P w K (.Tuple elts k tp) (Itz K a b) [z,TI,TO,i1,i2] z (fun i h=>IsZip h z TI TO .none∧IsPair h TI (.ref i1) (.ref i2)∧(∃ u v,IsPair h TO u v)∧h.IsListIter i1 a i∧h.IsListIter i2 b i) where
 mem:=by simp
 obj:=fun i h st c hc=>by
  obtain ⟨h1,h2,⟨u,v,h3⟩,⟨o4,g4,_,d4⟩,⟨o5,g5,_,d5⟩⟩:=st
  have hc':c=z∨c=TI∨c=TO∨c=i1∨c=i2:=by simpa using hc
  rcases hc' with rfl | rfl | rfl | rfl | rfl
  ·exact ⟨_,h1,fun v q=>by
    have q':Data.fields _=Data.cell v:=q
    cases q'⟩
  ·exact ⟨_,h2,fun v q=>by
    have q':Data.seq _ _=Data.cell v:=q
    cases q'⟩
  ·exact ⟨_,h3,fun v q=>by
    have q':Data.seq _ _=Data.cell v:=q
    cases q'⟩
  ·exact ⟨o4,g4,fun v q=>by rw [d4] at q; cases q⟩
  ·exact ⟨o5,g5,fun v q=>by rw [d5] at q; cases q⟩
 keep:=fun i h h' st kp=>⟨kp z (by simp) _ st.1,kp TI (by simp) _ st.2.1,let ⟨u,v,e⟩:=st.2.2.1; ⟨u,v,kp TO (by simp) _ e⟩,st.2.2.2.1.at fun o q=>kp i1 (by simp) o q,st.2.2.2.2.at fun o q=>kp i2 (by simp) o q⟩
 item:=by
  intro X hP hw hK hc i pins s σ H E I hf st hg
  subst hP hw hK
  obtain ⟨xs,ys,x,y,hq,hq2,hx,hy⟩:=hg
  obtain ⟨its,rv,p,hz⟩:=I.list hq
  obtain ⟨its2,rv2,p2,hz2⟩:=I.list hq2
  obtain ⟨u,hu,ru⟩:=rv.get hx
  obtain ⟨u2,hu2,ru2⟩:=rv2.get hy
  obtain ⟨hZ,hTI,⟨c1,c2,hTO⟩,hi1,hi2⟩:=st
  refine wpAny_pyNext_zip_item D hZ hTI hTO hi1 hi2 p.isList p2.isList (x:=u) (y:=u2) (by simpa using hu) (by simpa using hu2) fun h1 a1 a2 a3 a4 a5 a6 a7=>?_
  refine ⟨_,rfl,wpAny_letOwnedTupleGo_zip a1 fun h2 hz2' hs2=>?_⟩
  have zL:z < s.heap.objs.size:=Heap.lt_size hZ
  have ht2:IsPair h2 s.heap.objs.size u u2:=(hs2.2 _ (Nat.ne_of_gt zL)).trans a5
  have hTI2:IsPair h2 TI (.ref i1) (.ref i2):=(hs2.2 _ D.TIz).trans (a7 _ _ D.TIz D.TITO D.TIi1 D.TIi2 hTI)
  have hTO2:IsPair h2 TO u u2:=(hs2.2 _ D.TOz).trans a2
  have hi1':h2.IsListIter i1 a (i+1):=a3.extBut hs2.extBut D.i1z
  have hi2':h2.IsListIter i2 b (i+1):=a4.extBut hs2.extBut D.i2z
  have I2:Inv X pins σ (upd H s.heap.objs.size (.tup [x,y])) { s with heap:=h2,toks:=s.toks }:=by
   refine I.turnedLaid (fp:=[z,TI,TO,i1,i2]) hf (Nat.le_refl _) (fun c ob hb q=>?_) (fun c hb=>?_) ?_
   ·have n1:c≠z:=fun e=>hb (by simp [e])
    have n3:c≠TO:=fun e=>hb (by simp [e])
    have n4:c≠i1:=fun e=>hb (by simp [e])
    have n5:c≠i2:=fun e=>hb (by simp [e])
    exact (hs2.2 c n1).trans (a7 c ob n1 n3 n4 n5 q)
   ·have hb':c=z∨c=TI∨c=TO∨c=i1∨c=i2:=by simpa using hb
    rcases hb' with rfl | rfl | rfl | rfl | rfl
    ·exact ⟨_,hz2'⟩
    ·exact ⟨_,hTI2⟩
    ·exact ⟨_,hTO2⟩
    ·obtain ⟨o,ho,_⟩:=hi1'
     exact ⟨o,ho⟩
    ·obtain ⟨o,ho,_⟩:=hi2'
     exact ⟨o,ho⟩
   ·refine ⟨(by show 2≤sizeLine; decide),[u,u2],.cons ru (.cons ru2 .nil),?_⟩
    exact ⟨_,ht2,rfl,_,rfl,rfl⟩
  have fr:∀ c∈[z,TI,TO,i1,i2],upd H s.heap.objs.size (.tup [x,y]) c=none:=fun c hb=>by
   have hlt:c < s.heap.objs.size:=by
    have hb':c=z∨c=TI∨c=TO∨c=i1∨c=i2:=by simpa using hb
    rcases hb' with rfl | rfl | rfl | rfl | rfl
    ·exact zL
    ·exact Heap.lt_size hTI
    ·exact Heap.lt_size hTO
    ·obtain ⟨o,ho,_⟩:=hi1
     exact Heap.lt_size ho
    ·obtain ⟨o,ho,_⟩:=hi2
     exact Heap.lt_size ho
   rw [aM (Nat.ne_of_lt hlt)]
   exact (hf c hb).1
  exact ⟨.ref s.heap.objs.size,_,I2,rfl,⟨_,x,y,rfl,I.fresh,rfl,fun zs hz=>by rw [I.list_inj hz hq]; exact hx,fun zs hz=>by rw [I.list_inj hz hq2]; exact hy⟩,⟨hz2',hTI2,⟨_,_,hTO2⟩,hi1',hi2'⟩,fr⟩
 done:=by
  intro X hP hw hK hc i pins s σ H E I hf st hg
  subst hP hw hK
  obtain ⟨xs,ys,hq,hq2,he⟩:=hg
  obtain ⟨its,rv,p,hz⟩:=I.list hq
  obtain ⟨its2,rv2,p2,hz2⟩:=I.list hq2
  obtain ⟨hZ,hTI,⟨c1,c2,hTO⟩,hi1,hi2⟩:=st
  have l1:=rv.length
  have l2:=rv2.length
  refine wpAny_pyNext_zip_end (I.ok.hd hc) D hZ hTI hTO hi1 hi2 p.isList p2.isList ?_ fun h' eb=>⟨rfl,I.turnedMany (t':=s.toks) hf fun c o hb q=>eb c o (fun e=>hb (by simp [e])) (fun e=>hb (by simp [e])) (fun e=>hb (by simp [e])) (fun e=>hb (by simp [e])) q⟩
  rcases he with he | he
  ·exact .inl (by simp; omega)
  ·exact .inr (by simp; omega)
 self:=fun _ _ _ _ _ st h=>wpAny_pyIter_zip st.1 h
def Cz (K:PySem.W.Frag) (ta:TA):TI:=fun σ H R=>ta σ H fun vs H1=>∃ a b,vs=[.ref a,.ref b]∧(∃ xs,SqL K H1 a xs)∧(∃ ys,SqL K H1 b ys)∧R (Itz K a b) H1
theorem B1 {l m:Expr} {ta:TA} {p pos:Pos} {elts:List Expr} {k:Nat} {tp:Pos} (hg:Gl X "zip") (hm:X.mg "zip"=none) (ha:PA X [l,m] ta) (hs:starEach [l,m] X.env=(false,eval l X.env) :: starEach [m] X.env:=by rfl) (hpl:(backTo pos (starEach [m] X.env)).any (·.1)=false:=by rfl) :
  PI X (.Tuple elts k tp) (.Call (.Name "zip" p) [l,m] [] pos) (Cz X.K ta):=by
 intro pins s σ H R I h
 refine Call_ (gM I hg hm boot_zip (PyProof.Rows.callWith_type1 (thn (ha pos pins s σ H _ I h) fun us s1 ⟨vs,H1,I1,r1,q1⟩=>?_) hs hpl))
 obtain ⟨a,b,e,⟨xs,hq⟩,⟨ys,hq2⟩,q⟩:=q1
 subst e
 obtain ⟨u,v,rfl,ru,rv'⟩:=w8 r1
 cases ru
 cases rv'
 obtain ⟨its,rv,pl,hz⟩:=I1.list hq
 obtain ⟨its2,rv2,pl2,hz2⟩:=I1.list hq2
 have La:a < s1.heap.objs.size:=let ⟨_,e,_⟩:=pl.isList; Heap.lt_size e
 have Lb:b < s1.heap.objs.size:=let ⟨_,e,_⟩:=pl2.isList; Heap.lt_size e
 refine call_zip_2 pl.isList pl2.isList fun h' hZ hTI hTO hi1 hi2 hsz hk=>?_
 refine wpAny_pyIter_zip hZ ?_
 have I2:Inv X pins σ H1 { s1 with heap:=h' }:=I1.kept (t':=s1.toks) hk
 refine ⟨s1.heap.objs.size+4,[s1.heap.objs.size+4,s1.heap.objs.size+2,s1.heap.objs.size+3,s1.heap.objs.size,s1.heap.objs.size+1],_,_,H1,rfl,I2,ql _ _ _ _ _ a b (zipApart_new La Lb),⟨hZ,hTI,⟨_,_,hTO⟩,hi1,hi2⟩,fun c hb=>?_,q⟩
 have hb':s1.heap.objs.size≤c:=by
  have hb':c=s1.heap.objs.size+4∨c=s1.heap.objs.size+2∨c=s1.heap.objs.size+3∨c=s1.heap.objs.size∨c=s1.heap.objs.size+1:=by simpa using hb
  rcases hb' with rfl | rfl | rfl | rfl | rfl <;> omega
 exact I1.fpOk hb' (I1.hok.fresh hb')
theorem yp {l m:Expr} {ta:TA} {p pos:Pos} {elts:List Expr} {k:Nat} {tp:Pos} (hK:X.K=K) (hg:Gl X "zip") (hm:X.mg "zip"=none) (ha:PA X [l,m] ta) (hs:starEach [l,m] X.env=(false,eval l X.env) :: starEach [m] X.env:=by rfl) (hpl:(backTo pos (starEach [m] X.env)).any (·.1)=false:=by rfl) :
  PI X (.Tuple elts k tp) (.Call (.Name "zip" p) [l,m] [] pos) (Cz K ta):=by subst hK; exact B1 hg hm ha hs hpl
end
section
variable {prog:Program} {w:World} {A:Around} {E:Value→Shared→Prop} {s:Shared}
end
section
variable {X:Cx} {tg:Expr} {K:PySem.W.Frag}
end
end L2
namespace L2
open PySem PySem.Spec PyProof.Rows
abbrev li (z:Str):List Nat:=z.cps.toList
def mk1 (c:Nat):Str:=⟨#[c]⟩
def Sub (x z:List Nat):Prop:=∀ c∈x,c∈z
theorem fU (xs:List V) (i:Int) (h0:0≤i) (h1:i≤(xs.length:Int)):gx xs none (some i)=xs.take i.toNat:=by
 unfold gx HT.sIx
 dsimp only
 rw [if_neg (by omega),List.drop_zero,Nat.sub_zero,Nat.min_eq_left (by omega)]
theorem iq (xs:List V) (i:Int) (h0:0≤i) (h1:i≤(xs.length:Int)):gx xs (some i) none=xs.drop i.toNat:=by
 unfold gx HT.sIx
 dsimp only
 rw [if_neg (by omega),Nat.min_eq_left (by omega),List.take_of_length_le (by rw [List.length_drop]; exact Nat.le_refl _)]
end L2
namespace L2
open PySem PySem.Spec PyProof.Rows
section
variable {prog:Program} {w:World} {A:Around} {E:Value→Shared→Prop} {s:Shared}
end
section
variable {prog:Program} {w:World} {A:Around} {E:Value→Shared→Prop} {s:Shared}
end
section
variable {X:Cx} {K:PySem.W.Frag}
def pD (z y:Str):Bool:=!(Builtin.Str.occurrences z y 0 z.length 1).isEmpty
end
section
open PySem.SeqAt
end
end L2
namespace L2
open PySem PySem.Spec PyProof.Rows
theorem dE:∀ (names:List (Str × NameKind)) (n:Nat) (acc:List (Str × Addr)),cellsFrom n names acc=cellsFrom n names []++acc
 | [],_,_=>rfl
 | (x,k) :: r,n,acc=>by
  unfold cellsFrom
  split
  ·rw [dE r (n+1) ((x,n) :: acc),dE r (n+1) [(x,n)],List.append_assoc]
   rfl
  ·exact dE r n acc
theorem ft:∀ (names:List (Str × NameKind)) (n:Nat) (acc:List (Str × Addr)) {x:Str} {c:Addr},(x,c)∈cellsFrom n names acc→(x,c)∈acc∨(x,NameKind.cell)∈names
 | [],_,_,_,_,h=>.inl h
 | (y,k) :: r,n,acc,x,c,h=>by
  unfold cellsFrom at h
  split at h
  ·rename_i hk
   rcases ft r _ _ h with h | h
   ·rcases List.mem_cons.mp h with e | e
    ·have hk':k=.cell:=by simpa using hk
     have e':=(Prod.mk.inj e).1
     rw [e',← hk']
     exact .inr List.mem_cons_self
    ·exact .inl e
   ·exact .inr (List.mem_cons_of_mem _ h)
  ·rcases ft r _ _ h with h | h
   ·exact .inl h
   ·exact .inr (List.mem_cons_of_mem _ h)
theorem eL:∀ (names:List (Str × NameKind)) (n:Nat) (acc:List (Str × Addr)) {p:Str × Addr},p∈acc→p∈cellsFrom n names acc
 | [],_,_,_,h=>h
 | (y,k) :: r,n,acc,p,h=>by
  unfold cellsFrom
  split
  ·exact eL r _ _ (List.mem_cons_of_mem _ h)
  ·exact eL r _ _ h
theorem fu:∀ (names:List (Str × NameKind)) (n:Nat) (acc:List (Str × Addr)) {x:Str},(x,NameKind.cell)∈names→∃ c,(x,c)∈cellsFrom n names acc
 | [],_,_,_,h=>by simp at h
 | (y,k) :: r,n,acc,x,h=>by
  unfold cellsFrom
  rcases List.mem_cons.mp h with e | e
  ·cases e
   rw [if_pos (by rfl)]
   exact ⟨n,eL r _ _ List.mem_cons_self⟩
  ·split
   ·exact fu r _ _ e
   ·exact fu r _ _ e
theorem mn {α:Type}:∀ {a b:List (Str × α)} {x:Str} {c:α},(a++b).lookup x=some c→a.lookup x=some c∨(a.lookup x=none∧b.lookup x=some c)
 | [],_,_,_,h=>.inr ⟨rfl,h⟩
 | (n,v) :: r,b,x,c,h=>by
  rw [List.cons_append,List.lookup_cons] at h
  rw [List.lookup_cons]
  cases e:x == n with
  | true=>rw [e] at h; exact .inl h
  | false=>rw [e] at h; exact mn h
theorem iO {α:Type}:∀ {a b:List (Str × α)} {x:Str} {c:α},a.lookup x=some c→(a++b).lookup x=some c
 | [],_,_,_,h=>by simp at h
 | (n,v) :: r,b,x,c,h=>by
  rw [List.cons_append,List.lookup_cons]
  rw [List.lookup_cons] at h
  cases e:x == n with
  | true=>rw [e] at h; exact h
  | false=>rw [e] at h; exact iO h
theorem ij {α:Type}:∀ {a b:List (Str × α)} {x:Str} {c:α},a.lookup x=none→b.lookup x=some c→(a++b).lookup x=some c
 | [],_,_,_,_,h=>h
 | (n,v) :: r,b,x,c,hn,h=>by
  rw [List.cons_append,List.lookup_cons]
  rw [List.lookup_cons] at hn
  cases e:x == n with
  | true=>rw [e] at hn; cases hn
  | false=>rw [e] at hn; exact ij hn h
theorem ic {env:Env}:∀ {names:List (Str × NameKind)} {x:Str},names.lookup x=some .cell →
  (names.map fun (n,k)=>if (k == NameKind.free && env.scope.kind == .function && env.kindOf n == some .cell) then (n,NameKind.cell) else (n,k)).lookup x=some .cell
 | [],_,h=>by simp at h
 | (n,k) :: r,x,h=>by
  show List.lookup x ((if (k == NameKind.free && env.scope.kind == .function && env.kindOf n == some .cell)=true then (n,NameKind.cell) else (n,k)) :: _)=_
  cases hx:x == n with
  | true =>
   simp only [List.lookup_cons,hx] at h
   cases h
   simp [List.lookup_cons,hx]
  | false =>
   simp only [List.lookup_cons,hx] at h
   by_cases hc:(k == NameKind.free && env.scope.kind == .function && env.kindOf n == some .cell)=true
   ·rw [if_pos hc]; simp only [List.lookup_cons,hx]; exact ic h
   ·rw [if_neg hc]; simp only [List.lookup_cons,hx]; exact ic h
abbrev aW (X:Cx) (scope:Scope) (ns:List Str) (C:Addr) (cl:List (Str × Addr)) (s₀:Shared) (H₀:Hp) (fp:List Addr):Cx :=
 { X with N:=ns,s₀:=s₀,H₀:=H₀,env:=compEnvC scope cl C X.env,outer:=X.stack,ex:=fp,fn:=fun x=>scope.names.lookup x == some NameKind.cell,pn:=[],xe:=fun _ _=>False }
structure BlkOkC (X:Cx) (scope:Scope) (ns:List Str) (js:List (Option Nat)):Prop where
 kind:scope.kind=.function
 uniq:∀ y∈scope.names,y.2=.cell→scope.names.lookup y.1=some .cell
 names:∀ y∈scope.names,y.2=.local→scope.names.lookup y.1=some .local
 free:∀ y∈scope.names,y.2=.free→X.env.kindOf y.1=some .cell∨X.env.kindOf y.1=some .free
 nd:ns.Nodup
 len:js.length=ns.length
 out:∀ (i:Nat) (x:Str) (j:Nat),ns[i]?=some x→js[i]?=some (some j)→X.N[j]?=some x∧scope.names.lookup x=some .free
def jm (N:List Str) (sc scope:Scope) (ns:List Str) (js:List (Option Nat)):Bool :=
 decide (scope.kind=.function) && scope.names.all (fun y=>decide (y.2=.cell→scope.names.lookup y.1=some .cell)) && scope.names.all (fun y=>decide (y.2=.local→scope.names.lookup y.1=some .local)) &&
 scope.names.all (fun y=>decide (y.2=.free→sc.names.lookup y.1=some .cell∨sc.names.lookup y.1=some .free)) && decide ns.Nodup && decide (js.length=ns.length) &&
 (List.range ns.length).all (fun i=>match js[i]?,ns[i]? with
  | some (some j),some x=>decide (N[j]?=some x) && decide (scope.names.lookup x=some .free)
  | _,_=>true)
theorem nM {N:List Str} {scope:Scope} {ns:List Str} {js:List (Option Nat)} (h7:∀ i < ns.length,(match js[i]?,ns[i]? with
  | some (some j),some x=>decide (N[j]?=some x) && decide (scope.names.lookup x=some .free)
  | _,_=>true)=true) {i:Nat} {x:Str} {j:Nat} (e1:ns[i]?=some x) (e2:js[i]?=some (some j)):N[j]?=some x∧scope.names.lookup x=some .free:=by
 have q:=h7 i (List.getElem?_eq_some_iff.mp e1).1
 rw [e1,e2] at q
 simpa using q
theorem BlkOkC.of {X:Cx} {scope:Scope} {ns:List Str} {js:List (Option Nat)} {N0:List Str} {sc0:Scope} (hN:X.N=N0) (hS:X.env.scope=sc0) (h:jm N0 sc0 scope ns js=true):BlkOkC X scope ns js:=by
 unfold jm at h
 simp only [Bool.and_eq_true,List.all_eq_true,decide_eq_true_eq,List.mem_range] at h
 obtain ⟨⟨⟨⟨⟨⟨h1,h2⟩,h3⟩,h4⟩,h5⟩,h6⟩,h7⟩:=h
 refine ⟨h1,fun y hy=>h2 y hy,fun y hy=>h3 y hy,fun y hy hk=>?_,h5,h6,fun i x j e1 e2=>?_⟩
 ·have q:=h4 y hy hk
  rw [← hS] at q
  exact q
 ·rw [hN]
  exact nM h7 e1 e2
section
variable {M:Model} {A:Around} {E:Value→Shared→Prop} {s:Shared}
theorem ge {scope:Scope} {globals:Addr} {closure:List (Str × Addr)} {qual:Str} {outer:Env} {builtins:Addr} {Q:Env→Shared→Prop}
  (hQ:Q (newEnv scope s.heap.objs.size globals (cellsFrom (s.heap.objs.size+1) scope.names closure) qual none .none (some outer) builtins) { s with heap:=pushCells (s.heap.push { cls:=.type "dict",data:=.dict #[] }) scope.names }) :
  wpAny M A (newFunctionEnv scope globals closure [] qual none .none (some outer) builtins) Q E s:=by
 simp only [newFunctionEnv,Option.isSome_some,if_true]
 refine wpAny_bind (wpAny_alloc ?_)
 refine wpAny_bind (wpAny_layCells _ (fun name kind cells=>by cases hkc:kind == NameKind.cell <;> simp [hkc]) _ _ _ _ ?_)
 rw [show ({ s with heap:=s.heap.push { cls:=.type "dict",data:=.dict #[] } }:Shared).heap.objs.size=s.heap.objs.size+1 from Heap.size_push ..]
 rw [List.forIn_nil]
 exact wpAny_bind (wpAny_pure (wpAny_pure hQ))
end
section
variable {X:Cx} {elt tg iter:Expr} {ifs:List Expr} {scope:Scope} {pos:Pos} {ns:List Str} {js:List (Option Nat)} {wi:TI} {g:TG} {tt:TT} {te:TE}
theorem rE {pins:List (Addr × Obj)} {s3:Shared} {σ:St} {H3:Hp} {fp:List Addr} {h₁:Heap} {tk:Nat} (B:BlkOkC X scope ns js) (I3:Inv X pins σ H3 s3)
  (f3:∀ b∈fp,fy X pins H3 b) (lt3:∀ b∈fp,b < s3.heap.objs.size) (hns:h₁.Ns s3.heap.objs.size (fun _=>none)) (old:∀ b u,s3.heap.get? b=some u→h₁.get? b=some u)
  (cok:CellsOk h₁ (s3.heap.objs.size+1) (cellsFrom (s3.heap.objs.size+1) scope.names [])) :
  Inv (aW X scope ns s3.heap.objs.size (cellsFrom (s3.heap.objs.size+1) scope.names (cX X.env scope.names)) s3 H3 fp) [] (dF js σ) H3 { s3 with heap:=h₁,toks:=tk }:=by
 rw [dE]
 have hmem:∀ {x:Str} {c:Addr},(x,c)∈cellsFrom (s3.heap.objs.size+1) scope.names []→scope.names.lookup x=some .cell:=fun {x c} h=>by
  rcases ft _ _ _ h with h | h
  ·simp at h
  ·exact B.uniq _ h rfl
 have hhas:∀ {x:Str},scope.names.lookup x=some .cell→∃ c,(cellsFrom (s3.heap.objs.size+1) scope.names []).lookup x=some c:=fun {x} h=>by
  obtain ⟨c,hc⟩:=fu scope.names (s3.heap.objs.size+1) [] (PySem.mem_of_lookup h)
  exact fq hc
 generalize cellsFrom (s3.heap.objs.size+1) scope.names []=CS at cok hmem hhas
 have has:∀ y∈scope.names,y.2=.free→∃ c,X.env.cells.lookup y.1=some c:=fun y hy hk=>I3.ok.has y.1 (B.free y hy hk)
 have look:∀ {n:Str} {c:Addr},(CS++cX X.env scope.names).lookup n=some c→(CS.lookup n=some c∧h₁.IsCell c none∧s3.heap.objs.size+1≤c)∨(CS.lookup n=none∧X.env.cells.lookup n=some c∧c < s3.heap.objs.size):=fun {n c} e=>by
  rcases mn e with e | ⟨e1,e2⟩
  ·exact .inl ⟨e,cok.empty n c (PySem.mem_of_lookup e)⟩
  ·have e3:=k8 has e2
   obtain ⟨v,hv⟩:=I3.cell n c e3
   exact .inr ⟨e1,e3,hv.lt⟩
 refine ⟨⟨I3.ok.mod,B.kind,I3.ok.glob,I3.ok.blt,Nat.le_refl _,fun y z c h1 h2=>?_,fun y hy=>?_,fun y c hf h=>?_,I3.ok.hd,I3.ok.frames,.inl rfl,fun b hb=>?_,I3.bs,Nat.le_trans I3.ok.bsz I3.sz,
   fun b o e hb=>?_,fun b hb z=>?_,I3.stack,I3.stkFree⟩,
  rfl,I3.bare,Un.kept old,⟨_,hns,fun i x v h1 h2 h3=>?_⟩,fun y c h=>?_,I3.fresh,fun y c h=>?_,fun p hp=>absurd (show p∈([]:List (Addr × Obj)) from hp) (by simp),I3.hok.kept old,?_⟩
 ·rcases look h1 with ⟨a1,_,a3⟩ | ⟨_,a2,a3⟩ <;> rcases look h2 with ⟨b1,_,b3⟩ | ⟨_,b2,b3⟩
  ·exact name_of_addr cok.apart (PySem.mem_of_lookup a1) (PySem.mem_of_lookup b1)
  ·exact absurd (Nat.lt_of_lt_of_le (Nat.lt_of_lt_of_le b3 (Nat.le_succ _)) a3) (Nat.lt_irrefl _)
  ·exact absurd (Nat.lt_of_lt_of_le (Nat.lt_of_lt_of_le a3 (Nat.le_succ _)) b3) (Nat.lt_irrefl _)
  ·exact I3.ok.inj y z c a2 b2
 ·have hf:scope.names.lookup y=some .cell∨scope.names.lookup y=some .free:=by
   rcases hy with hy | hy
   ·rcases ia (env:=X.env) hy with q | q
    ·exact .inl q
    ·exact .inr q.1
   ·rcases ia (env:=X.env) hy with q | q
    ·exact .inr q
    ·exact .inr q.1
  show ∃ c,(CS++cX X.env scope.names).lookup y=some c
  rcases hf with hf | hf
  ·obtain ⟨c,hc⟩:=hhas hf
   exact ⟨c,iO hc⟩
  ·obtain ⟨c,hc⟩:=mS (env:=X.env) (PySem.mem_of_lookup hf)
   cases e:CS.lookup y with
   | none=>exact ⟨c,ij e hc⟩
   | some d=>exact ⟨d,iO e⟩
 ·rcases look h with ⟨_,_,a3⟩ | ⟨a1,_,_⟩
  ·show s3.heap.objs.size≤c
   omega
  ·have hf':(scope.names.lookup y == some NameKind.cell)=true:=hf
   obtain ⟨d,hd⟩:=hhas (by simpa using hf')
   rw [a1] at hd
   cases hd
 ·refine ⟨Nat.ne_of_lt (lt3 b hb),fun x c e=>?_⟩
  rcases look e with ⟨_,_,a3⟩ | ⟨_,a2,_⟩
  ·have:=lt3 b hb
   intro z
   subst z
   exact Nat.lt_irrefl _ (Nat.lt_of_lt_of_le (Nat.lt_of_lt_of_le this (Nat.le_succ _)) a3)
  ·exact (f3 b hb).2.2.2.2.1 x c a2
 ·rcases (f3 b hb).2.2.2.1 with z | z
  ·exact I3.ok.noex b o e z
  ·exact absurd (Nat.lt_of_lt_of_le (Nat.lt_of_lt_of_le (Heap.lt_size e) I3.ok.bsz) z) (Nat.lt_irrefl _)
 ·rcases List.mem_cons.mp (I3.stkSub b z) with q | q
  ·exact (f3 b hb).2.1 q
  ·exact (f3 b hb).2.2.1 q
 ·have h2':(js.map fun j=>match j with | some j=>(σ[j]?).join | none=>none)[i]?=some (some v):=h2
  rw [List.getElem?_map] at h2'
  obtain ⟨j,hj,hσ⟩:∃ j,js[i]?=some (some j)∧σ[j]?=some (some v):=by
   cases e:js[i]? with
   | none=>rw [e] at h2'; simp at h2'
   | some oj =>
    rw [e] at h2'
    cases oj with
    | none=>simp at h2'
    | some j =>
     refine ⟨j,rfl,?_⟩
     have q:(σ[j]?).join=some v:=by simpa using h2'
     cases e2:σ[j]? with
     | none=>rw [e2] at q; simp at q
     | some ov =>
      rw [e2] at q
      simp at q
      rw [q]
  obtain ⟨hN,hfr⟩:=B.out i x j h1 hj
  have hf:=B.free (x,.free) (PySem.mem_of_lookup hfr) rfl
  have hf':X.env.kindOf x=some .cell∨X.env.kindOf x=some .free:=hf
  obtain ⟨m,hn,hl⟩:=I3.loc
  obtain ⟨u,r,l⟩:=hl j x v hN hσ (by
   rcases hf' with z | z
   ·exact .inr (.inl z)
   ·exact .inr (.inr z))
  refine ⟨u,r,?_⟩
  rcases l with ⟨hk,_⟩ | ⟨hk,c,hc,hcell⟩
  ·rcases hf' with z | z
   ·rw [z] at hk; cases hk
   ·rw [z] at hk; cases hk
  ·obtain ⟨c',hc'⟩:=mS (env:=X.env) (PySem.mem_of_lookup hfr)
   have e':=k8 has hc'
   rw [hc] at e'
   cases e'
   obtain ⟨o,ho,hd⟩:=hcell
   have hno:CS.lookup x=none:=by
    cases e:CS.lookup x with
    | none=>rfl
    | some d =>
     have q:=hmem (PySem.mem_of_lookup e)
     rw [hfr] at q
     cases q
   exact .inr ⟨ib (env:=X.env) hfr,c,ij hno hc',⟨o,old c o ho,hd⟩⟩
 ·rcases look h with ⟨_,a2,_⟩ | ⟨_,a2,_⟩
  ·exact ⟨_,a2⟩
  ·obtain ⟨v,o,ho,hd⟩:=I3.cell y c a2
   exact ⟨v,o,old c o ho,hd⟩
 ·rcases look h with ⟨_,_,a3⟩ | ⟨_,a2,_⟩
  ·exact I3.hok.fresh (by omega)
  ·exact I3.freeC y c a2
 ·show (js.map _).length=ns.length
  rw [List.length_map]
  exact B.len
theorem mr {pins:List (Addr × Obj)} {s2:Shared} {σ:St} {H2:Hp} {Qv:VK} {J:It} {fp:List Addr} {it:Addr} {tn:Nat→Heap→Prop} {RR:Value→Addr→Result→Shared→Prop}
  (B:BlkOkC X scope ns js) (hc:X.calm=true) (I2:Inv X pins σ H2 s2) (T:Turn X.prog X.w X.K tg J fp it tn) (st2:tn 0 s2.heap) (f2:∀ b∈fp,fy X pins H2 b)
  (hg:∀ C cl s₀ H₀ fp,PG (aW X scope ns C cl s₀ H₀ fp) tg g) (ht:∀ C cl s₀ H₀ fp,PTs (aW X scope ns C cl s₀ H₀ fp) ifs tt) (he:∀ C cl s₀ H₀ fp,PE (aW X scope ns C cl s₀ H₀ fp) elt te)
  (hw:∀ D,H2 D=none→xr J g tt te (dF js σ) H2 D Qv)
  (hRR:∀ D C s' H',Inv X pins σ H' s'→Qv (.ref D) H'→(∃ m,s'.heap.Ns C m)→H' C=none→C≠X.env.locals→X.s₀.heap.objs.size≤C→(∀ x c,X.env.cells.lookup x=some c→c≠C)→(∀ p∈X.pn++pins,p.1≠C)→RR (.ref D) C (.ok .next) s') :
  wpAny (model X.prog X.w) X.A (newList []) (fun acc s₃=>wpAny (model X.prog X.w) X.A (newFunctionEnv scope X.env.globals (cX X.env scope.names) [] X.env.qual none .none (some X.env)) (fun cenv s₄ =>
   codeAny (model X.prog X.w) X.A (.compStart (.ListComp elt [⟨tg,iter,ifs,0⟩] scope pos) 0 (.ref it) acc { cenv with scope:=relabel scope X.env }) (RR acc cenv.locals) s₄) X.xe s₃) X.xe s2:=by
 refine wpAny_newObj_type (ge ?_)
 dsimp only
 have I3:Inv X pins σ (upd H2 s2.heap.objs.size (.lst [])) { s2 with heap:=s2.heap.push { cls:=.type "list",data:=.seq ([]:List Value).toArray },toks:=s2.toks }:=I2.lnew .nil (Nat.zero_le _)
 generalize hs3:({ s2 with heap:=s2.heap.push { cls:=.type "list",data:=.seq ([]:List Value).toArray },toks:=s2.toks }:Shared)=s3 at I3
 have e3:s3.heap=s2.heap.push { cls:=.type "list",data:=.seq ([]:List Value).toArray }:=by rw [← hs3]
 have k3:∀ b u,s2.heap.get? b=some u→s3.heap.get? b=some u:=fun b u e=>by rw [e3]; exact Heap.get?_push_of_some _ e
 have sz3:s3.heap.objs.size=s2.heap.objs.size+1:=by rw [e3,Heap.size_push]
 have hD:H2 s2.heap.objs.size=none:=I2.fresh
 obtain ⟨h₁,hh₁⟩:∃ h₁,h₁=pushCells (s3.heap.push { cls:=.type "dict",data:=.dict #[] }) scope.names:=⟨_,rfl⟩
 have old:∀ b u,s3.heap.get? b=some u→h₁.get? b=some u:=fun b u e=>by
  rw [hh₁]
  exact pushCells_keeps _ _ b u (Heap.get?_push_of_some _ e)
 have hns:h₁.Ns s3.heap.objs.size (fun _=>none):=by
  rw [hh₁]
  exact (Heap.Ns.new s3.heap (.type "dict")).keeps (pushCells_keeps _ _)
 have cok:CellsOk h₁ (s3.heap.objs.size+1) (cellsFrom (s3.heap.objs.size+1) scope.names []):=by
  have q:=cellsFrom_ok scope.names (s3.heap.push { cls:=.type "dict",data:=.dict #[] }) (s3.heap.objs.size+1) [] ⟨fun _ _ hm=>(nomatch hm),List.Pairwise.nil⟩ (by rw [Heap.size_push]; exact Nat.le_refl _)
  rw [Heap.size_push,← hh₁] at q
  exact q
 have obj2:∀ b∈fp,b < s2.heap.objs.size:=fun b hb=>let ⟨o,e,_⟩:=T.obj 0 _ st2 b hb; Heap.lt_size e
 have f3:∀ b∈fp,fy X pins (upd H2 s2.heap.objs.size (.lst [])) b:=fun b hb=>⟨by rw [aM (Nat.ne_of_lt (obj2 b hb))]; exact (f2 b hb).1,(f2 b hb).2⟩
 have lt3:∀ b∈fp,b < s3.heap.objs.size:=fun b hb=>by rw [sz3]; exact Nat.lt_succ_of_lt (obj2 b hb)
 obtain ⟨W,⟨m0,w0⟩,turn⟩:=hw _ hD
 have J0:=fun tk=>rE (tk:=tk) B I3 f3 lt3 hns old cok
 have has:∀ y∈scope.names,y.2=.free→∃ c,X.env.cells.lookup y.1=some c:=fun y hy hk=>I2.ok.has y.1 (B.free y hy hk)
 have stat:∀ {H':Hp},(∀ b∈fp,H' b=none)→∀ b∈fp,fy (aW X scope ns s3.heap.objs.size (cellsFrom (s3.heap.objs.size+1) scope.names (cX X.env scope.names)) s3 (upd H2 s2.heap.objs.size (.lst [])) fp) [] H' b:=fun hn b hb =>
  ⟨hn b hb,Nat.ne_of_lt (lt3 b hb),(J0 0).ok.exfs b hb,.inl hb,fun x c e=>(J0 0).ok.exf b hb |>.2 x c e,fun p hp=>absurd (show p∈([]:List (Addr × Obj)) from hp) (by simp)⟩
 have fin:∀ {τ:St} {H':Hp} {s':Shared},Inv (aW X scope ns s3.heap.objs.size (cellsFrom (s3.heap.objs.size+1) scope.names (cX X.env scope.names)) s3 (upd H2 s2.heap.objs.size (.lst [])) fp) [] τ H' s'→Qv (.ref s2.heap.objs.size) H'→RR (.ref s2.heap.objs.size) s3.heap.objs.size (.ok .next) s':=fun {τ H' s'} I6 q=>by
  have u1:Un (frs X.stack) fp H2 (upd H2 s2.heap.objs.size (.lst [])) s2.heap s3.heap:=Un.laid k3 (Nat.le_refl _) hD
  have os3:s3.os=s2.os:=by rw [← hs3]
  have I7:Inv X pins σ H' s':=I2.call' (ch:=fp) (I6.os.trans os3) (u1.trans I6.base) I6.hok I6.bare fun b hb=>⟨(f2 b hb).2.2.2.1,(f2 b hb).2.1,(f2 b hb).2.2.2.2.1,(f2 b hb).2.2.2.2.2⟩
  have le2:s2.heap.objs.size≤s3.heap.objs.size:=by rw [sz3]; exact Nat.le_succ _
  refine hRR _ _ s' H' I7 q ?_ I6.free (Nat.ne_of_gt (Nat.lt_of_lt_of_le I2.lt le2)) (Nat.le_trans I2.sz le2) (fun x c e z=>?_) fun p hp z=>?_
  ·obtain ⟨m,hn,_⟩:=I6.loc
   exact ⟨m,hn⟩
  ·obtain ⟨v,hv⟩:=I2.cell x c e
   exact absurd (Nat.lt_of_lt_of_le hv.lt (by rw [z]; exact le2)) (Nat.lt_irrefl _)
  ·exact absurd (Nat.lt_of_lt_of_le (Heap.lt_size (I2.pin p hp).1) (by rw [z]; exact le2)) (Nat.lt_irrefl _)
 rw [← e3,← hh₁]
 have loop:∀ tk,codeAny (model X.prog X.w) X.A (.compLoop (.ListComp elt [⟨tg,iter,ifs,0⟩] scope pos) 0 (.ref it) (.ref s2.heap.objs.size) (compEnvC scope (cellsFrom (s3.heap.objs.size+1) scope.names (cX X.env scope.names)) s3.heap.objs.size X.env))
   (RR (.ref s2.heap.objs.size) s3.heap.objs.size) { s3 with heap:=h₁,toks:=tk }:=fun tk=>by
  refine codeAny_loop rfl (fun n s'=>∃ i τ H',Inv (aW X scope ns s3.heap.objs.size (cellsFrom (s3.heap.objs.size+1) scope.names (cX X.env scope.names)) s3 (upd H2 s2.heap.objs.size (.lst [])) fp) [] τ H' s'∧tn i s'.heap∧(∀ b∈fp,H' b=none)∧W i n τ H') (fun n s5 hI=>?_) m0
   ⟨0,_,_,J0 tk,T.keep _ _ _ st2 fun b _ o e=>old b o (k3 b o e),fun b hb=>(f3 b hb).1,w0⟩
  obtain ⟨i,τ,H5,I5,st5,fr5,w5⟩:=hI
  show wpAny _ X.A ((compTurn (.ListComp elt [⟨tg,iter,ifs,0⟩] scope pos) 0 (.ref it) (.ref s2.heap.objs.size) (compEnvC scope (cellsFrom (s3.heap.objs.size+1) scope.names (cX X.env scope.names)) s3.heap.objs.size X.env)).onRaise (fun x=>do noteFrame x (compEnvC scope (cellsFrom (s3.heap.objs.size+1) scope.names (cX X.env scope.names)) s3.heap.objs.size X.env); theTreesLotGoes x)) _ _ s5
  refine wpAny_noted ?_
  rw [compTurn_list]
  refine wpAny_bind (wpAny_standAt (wpAny_bind ?_))
  rcases turn i n τ H5 w5 with ⟨stop,qn⟩ | ⟨go,N,hN,step⟩
  ·refine thn (T.done (aW X scope ns s3.heap.objs.size (cellsFrom (s3.heap.objs.size+1) scope.names (cX X.env scope.names)) s3 (upd H2 s2.heap.objs.size (.lst [])) fp) rfl rfl rfl hc i [] s5 τ H5 _ I5 (stat fr5) st5 stop) fun r s6 ⟨hr,I6⟩=>?_
   subst hr
   exact wpAny_pure (fin I6 qn)
  ·refine thn (T.item (aW X scope ns s3.heap.objs.size (cellsFrom (s3.heap.objs.size+1) scope.names (cX X.env scope.names)) s3 (upd H2 s2.heap.objs.size (.lst [])) fp) rfl rfl rfl hc i [] s5 τ H5 _ I5 (stat fr5) st5 go) fun r s6 ⟨u,hr,h6⟩=>?_
   subst hr
   dsimp only
   refine wpAny_bind (thn h6 fun _ s7 ⟨x,H7,I7,r7,y7,st7,fr7⟩=>?_)
   have I7':=I7.pinned (stat fr7) (T.obj _ _ st7)
   have back:∀ {τ9:St} {H9:Hp} {s9:Shared},Inv (aW X scope ns s3.heap.objs.size (cellsFrom (s3.heap.objs.size+1) scope.names (cX X.env scope.names)) s3 (upd H2 s2.heap.objs.size (.lst [])) fp) ([]++iL fp s7.heap) τ9 H9 s9 →
     Inv (aW X scope ns s3.heap.objs.size (cellsFrom (s3.heap.objs.size+1) scope.names (cX X.env scope.names)) s3 (upd H2 s2.heap.objs.size (.lst [])) fp) [] τ9 H9 s9∧tn (i+1) s9.heap∧∀ b∈fp,H9 b=none:=fun {τ9 H9 s9} I9=>by
    refine ⟨I9.unpinned,T.keep _ _ _ st7 fun b hb o e=>(I9.pin (b,o) (List.mem_append_right _ (List.mem_append_right _ (fC hb e)))).1,fun b hb=>?_⟩
    obtain ⟨o,e,d⟩:=T.obj _ _ st7 b hb
    exact (I9.pin (b,o) (List.mem_append_right _ (List.mem_append_right _ (fC hb e)))).2.1
   refine wpAny_bind (thF (hg _ _ _ _ _ _ s7 τ H7 x u _ I7' r7 (step x H7 y7)) fun _ s8 ⟨τ8,H8,I8,q8⟩=>?_)
   refine wpAny_bind (thF (ht _ _ _ _ _ _ s8 τ8 H8 _ I8 q8) fun b s9 ⟨H9,I9,q9⟩=>?_)
   cases b with
   | false =>
    rw [if_neg Bool.false_ne_true] at q9
    obtain ⟨m',hm,w9⟩:=hN _ _ q9
    obtain ⟨a1,a2,a3⟩:=back I9
    exact wpAny_pure ⟨rfl,m',hm,i+1,τ8,H9,a1,a2,a3,w9⟩
   | true =>
    rw [if_pos rfl] at q9
    refine wpAny_bind (wpAny_bind (thF (he _ _ _ _ _ _ s9 τ8 H9 _ I9 q9) fun v s10 ⟨y,H10,I10,r10,q10⟩=>?_))
    obtain ⟨xs,hx,hz,n10⟩:=q10
    obtain ⟨m',hm,w10⟩:=hN _ _ n10
    refine wpAny_bind (thF (kQ _ s10 τ8 H10 (.ref s2.heap.objs.size) [y] (.ref s2.heap.objs.size) [v] (fun _ H11=>W (i+1) m' τ8 H11) I10 rfl (.cons r10 .nil) ⟨_,xs,y,rfl,rfl,hx,hz,w10⟩) fun _ s11 ⟨_,H11,I11,_,q11⟩=>?_)
    obtain ⟨a1,a2,a3⟩:=back I11
    exact wpAny_pure (wpAny_pure ⟨rfl,m',hm,i+1,τ8,H11,a1,a2,a3,q11⟩)
 have hst1:tn 0 h₁:=T.keep _ _ _ st2 fun b _ o e=>old b o (k3 b o e)
 subst hs3
 exact codeAny_compStart_list (loop _) (T.self _ 0 _ _ _ hst1 (loop _))
theorem B6 (B:BlkOkC X scope ns js) (hc:X.calm=true) (hi:PI X tg iter wi)
  (hg:∀ C cl s₀ H₀ fp,PG (aW X scope ns C cl s₀ H₀ fp) tg g) (ht:∀ C cl s₀ H₀ fp,PTs (aW X scope ns C cl s₀ H₀ fp) ifs tt) (he:∀ C cl s₀ H₀ fp,PE (aW X scope ns C cl s₀ H₀ fp) elt te)
  (hs:∀ x,foldedSetIterable iter X.env x=pure x:=by intro _; rfl):PE X (.ListComp elt [⟨tg,iter,ifs,0⟩] scope pos) (tLC wi g tt te js):=by
 intro pins s σ H Q I h
 rw [eval_ListComp]
 have hclos:=ke (scope:=scope) (env:=X.env) (fun y hy hk=>I.ok.has y.1 (B.free y hy hk))
 refine wpAny_comprehension_free (use:=none) rfl hs hclos B.kind B.names (thn (hi pins s σ H _ I h) fun v s1 h1=>thn h1 fun itv s2 h2=>?_)
 obtain ⟨it,fp,tn,J,H2,e,I2,T,st2,f2,hw⟩:=h2
 subst e
 refine mr (RR:=fun acc C=>compPost (model X.prog X.w) X.A X.xe none (EP X pins σ Q) acc C) B hc I2 T st2 f2 hg ht he hw ?_
 intro D C s' H' I' q hm c0 c1 c2 c3 c4
 obtain ⟨m,hn⟩:=hm
 exact ⟨m,hn,fun h' hs'=>⟨.ref D,H',I'.turned (t':=s'.toks) (fun b o hb e=>(hs'.2 b hb).trans e) c0 c1 (.inr c2) c3 c4,rfl,q⟩⟩
theorem oZ {i:Nat} {x:Str} {spos pos':Pos} (hN:X.N.Nodup) (hi':X.N[i]?=some x) (hx:X.env.scope.names.lookup x=some .local) (B:BlkOkC X scope ns js) (hc:X.calm=true) (hi:PI X tg iter wi)
  (hg:∀ C cl s₀ H₀ fp,PG (aW X scope ns C cl s₀ H₀ fp) tg g) (ht:∀ C cl s₀ H₀ fp,PTs (aW X scope ns C cl s₀ H₀ fp) ifs tt) (he:∀ C cl s₀ H₀ fp,PE (aW X scope ns C cl s₀ H₀ fp) elt te)
  (hsw:swapsWith (.ListComp elt [⟨tg,iter,ifs,0⟩] scope pos) (some (.Name x pos')) spos.line X.env=pure true:=by rfl)
  (hs:∀ x,foldedSetIterable iter X.env x=pure x:=by intro _; rfl):PS X (.Assign [.Name x pos'] (.ListComp elt [⟨tg,iter,ifs,0⟩] scope pos) spos) (jz (tLC wi g tt te js) (j5 i)):=by
 intro pins s σ H D I h
 rw [exec_Assign_Name_used _ _ _ _ hsw]
 have hclos:=ke (scope:=scope) (env:=X.env) (fun y hy hk=>I.ok.has y.1 (B.free y hy hk))
 refine wpAny_bind (wpAny_standAt (wpAny_bind ?_))
 show wpAny _ X.A (do let _ ← comprehension (.ListComp elt [⟨tg,iter,ifs,0⟩] scope pos) scope X.env _ (newList []) false (eval iter X.env) (some (assign (.Name x pos') X.env))) _ _ s
 refine wpAny_bind (wpAny_mono (wpAny_comprehension_free (use:=some (assign (.Name x pos') X.env)) (Q:=fun _ s'=>SP X pins D .next s') rfl hs hclos B.kind B.names
  (thn (hi pins s σ H _ I h) fun v s1 h1=>thn h1 fun itv s2 h2=>?_)) (fun _ s' hq=>wpAny_pure (wpAny_pure hq)) fun _ _ e=>e)
 obtain ⟨it,fp,tn,J,H2,e,I2,T,st2,f2,hw⟩:=h2
 subst e
 refine mr (RR:=fun acc C=>compPost (model X.prog X.w) X.A X.xe (some (assign (.Name x pos') X.env)) (fun _ s'=>SP X pins D .next s') acc C) B hc I2 T st2 f2 hg ht he hw ?_
 intro D' C s' H' I' q hm c0 c1 c2 c3 c4
 obtain ⟨m,hn⟩:=hm
 show wpAny _ X.A (assign (.Name x pos') X.env (.ref D')) _ _ _
 refine wpAny_assign_Name (kM (v:=.ref D') I' hN hi' (.inl hx) rfl (fun s4 I4 ⟨a,hsb,ha⟩=>?_) (.inr hx))
 have ne:C≠a:=by
  rcases ha with z | z
  ·rw [z]; exact c1
  ·exact (c3 x a z).symm
 exact ⟨m,hn.sameBut hsb ne,fun h' hs'=>⟨_,H',I4.turned (t':=s4.toks) (fun b o hb e=>(hs'.2 b hb).trans e) c0 c1 (.inr c2) c3 c4,q⟩⟩
end
end L2
namespace L2
open PySem PySem.Spec PyProof.Rows
section
variable {X:Cx} {K:PySem.W.Frag}
theorem gn (ns:List Int):∀ k,k≤ns.length→preSum (fun i=>ns.getD i 0) k=(ns.take k).sum
 | 0,_=>rfl
 | k+1,h=>by
  show preSum (fun i=>ns.getD i 0) k+ns.getD k 0=_
  rw [gn ns k (by omega),PyProof.Rows.take_sum_succ ns k (by omega)]
end
end L2
namespace L2
open PySem PySem.Spec PyProof.Rows
mutual
def DV (H:Hp):V→PyData→Prop
 | v,.none=>v=.non
 | v,.bool b=>v=.bl b
 | v,.int i=>v=.int i
 | v,.str x=>v=.str x
 | v,.list ds=>∃ a xs,v=.ref a∧H a=some (.lst xs)∧DVs H xs ds
 | v,.tuple ds=>∃ a xs,v=.ref a∧H a=some (.tup xs)∧DVs H xs ds
 | _,.dict _=>False
def DVs (H:Hp):List V→List PyData→Prop
 | vs,[]=>vs=[]
 | vs,d :: ds=>∃ v r,vs=v :: r∧DV H v d∧DVs H r ds
end
mutual
theorem DV.same {H H':Hp} (s:DF H H'):∀ {v:V} (d:PyData),DV H v d→DV H' v d
 | _,.none,h=>by simpa [DV] using h
 | _,.bool _,h=>by simpa [DV] using h
 | _,.int _,h=>by simpa [DV] using h
 | _,.str _,h=>by simpa [DV] using h
 | _,.list ds,h=>by
  unfold DV at h ⊢
  obtain ⟨a,xs,e,h1,h2⟩:=h
  exact ⟨a,xs,e,s _ _ h1,DVs.same s ds h2⟩
 | _,.tuple ds,h=>by
  unfold DV at h ⊢
  obtain ⟨a,xs,e,h1,h2⟩:=h
  exact ⟨a,xs,e,s _ _ h1,DVs.same s ds h2⟩
 | _,.dict _,h=>by
  unfold DV at h
  exact h.elim
theorem DVs.same {H H':Hp} (s:DF H H'):∀ {vs:List V} (ds:List PyData),DVs H vs ds→DVs H' vs ds
 | _,[],h=>by
  unfold DVs at h ⊢
  exact h
 | _,d :: ds,h=>by
  unfold DVs at h ⊢
  obtain ⟨v,r,e,h1,h2⟩:=h
  exact ⟨v,r,e,DV.same s d h1,DVs.same s ds h2⟩
end
section
variable {X:Cx} {pins:List (Addr × Obj)} {σ:St} {H:Hp} {s:Shared}
mutual
theorem DV.reads (I:Inv X pins σ H s):∀ {v:V} {u:Value} (d:PyData),DV H v d→RelV v u→∃ as,Reads s.heap u d as
 | _,_,.none,h,r=>by
  unfold DV at h
  subst h
  cases r
  exact ⟨_,.none⟩
 | _,_,.bool b,h,r=>by
  unfold DV at h
  subst h
  cases r
  exact ⟨_,.bool _⟩
 | _,_,.int i,h,r=>by
  unfold DV at h
  subst h
  obtain ⟨t,rfl⟩:=r
  exact ⟨_,.int _ _⟩
 | _,_,.str x,h,r=>by
  unfold DV at h
  subst h
  obtain ⟨t,rfl⟩:=r
  exact ⟨_,.str _ _⟩
 | _,_,.list ds,h,r=>by
  unfold DV at h
  obtain ⟨a,xs,rfl,h1,h2⟩:=h
  cases r
  obtain ⟨its,rv,⟨o,n,e1,e2,_,e3⟩,_⟩:=I.list (SqL.of h1)
  obtain ⟨as,ra⟩:=DVs.reads I ds h2 rv
  exact ⟨_,.list e1 e2 e3 (by simpa using ra)⟩
 | _,_,.tuple ds,h,r=>by
  unfold DV at h
  obtain ⟨a,xs,rfl,h1,h2⟩:=h
  cases r
  obtain ⟨its,rv,⟨o,e1,e2,n,e3⟩,_⟩:=I.tuple (SqT.of h1)
  obtain ⟨as,ra⟩:=DVs.reads I ds h2 rv
  exact ⟨_,.tuple e1 e2 e3 (by simpa using ra)⟩
 | _,_,.dict _,h,_=>by
  unfold DV at h
  exact h.elim
theorem DVs.reads (I:Inv X pins σ H s):∀ {vs:List V} {us:List Value} (ds:List PyData),DVs H vs ds→Vals vs us→∃ as,ReadsAll s.heap us ds as
 | _,_,[],h,r=>by
  unfold DVs at h
  subst h
  cases r
  exact ⟨_,.nil⟩
 | _,_,d :: ds,h,r=>by
  unfold DVs at h
  obtain ⟨v,t,rfl,h1,h2⟩:=h
  cases r with
  | cons ru rr =>
   obtain ⟨as,a1⟩:=DV.reads I d h1 ru
   obtain ⟨bs,a2⟩:=DVs.reads I ds h2 rr
   exact ⟨_,.cons a1 a2⟩
end
end
mutual
theorem k7 {H:Hp}:∀ {v:V} (d:PyData),DV H v d→d.hasDict=false
 | _,.none,_=>by simp only [PyData.hasDict]
 | _,.bool _,_=>by simp only [PyData.hasDict]
 | _,.int _,_=>by simp only [PyData.hasDict]
 | _,.str _,_=>by simp only [PyData.hasDict]
 | _,.list ds,h=>by
  unfold DV at h
  obtain ⟨a,xs,e,h1,h2⟩:=h
  simp only [PyData.hasDict]
  exact ip ds h2
 | _,.tuple ds,h=>by
  unfold DV at h
  obtain ⟨a,xs,e,h1,h2⟩:=h
  simp only [PyData.hasDict]
  exact ip ds h2
 | _,.dict _,h=>by
  unfold DV at h
  exact h.elim
theorem ip {H:Hp}:∀ {vs:List V} (ds:List PyData),DVs H vs ds→PyData.hasDictAll ds=false
 | _,[],_=>by simp only [PyData.hasDictAll]
 | _,d :: ds,h=>by
  unfold DVs at h
  obtain ⟨v,r,e,h1,h2⟩:=h
  simp only [PyData.hasDictAll,k7 d h1,ip ds h2,Bool.or_self]
end
section
variable {X:Cx}
def DP:List V→Hp→VK→Prop:=fun xs H Q=>∃ x d,xs=[x]∧DV H x d∧d.showable=true∧d.depth≤60∧d.shown.length≤sizeLine∧Q (.str d.shown) H
theorem p7 (hg:X.A.guards=some []) (hu:X.A.units+64 < cLine):CallR X (.builtin "repr") DP:=by
 intro pins s σ H xs us Q I r h
 obtain ⟨x,d,rfl,hd,hsh,hdp,hsz,q⟩:=h
 obtain ⟨u,rfl,ru⟩:=cz r
 have nd:=k7 d hd
 obtain ⟨as,rd⟩:=DV.reads I d hd ru
 cases d with
 | none =>
  unfold DV at hd
  subst hd
  cases ru
  have e:(PyData.none).shown=("None" : Str):=PyData.shown_none
  rw [e] at q
  exact P.repr_of_none ⟨.str _,H,I.tok _,⟨_,rfl⟩,q⟩
 | bool b =>
  unfold DV at hd
  subst hd
  cases ru
  have e:(PyData.bool b).shown=(if b then "True" else "False" : Str):=PyData.shown_bool b
  rw [e] at q
  exact P.repr_of_bool ⟨.str (if b then "True" else "False"),H,I.tok _,⟨_,rfl⟩,q⟩
 | int i =>
  unfold DV at hd
  subst hd
  obtain ⟨t,rfl⟩:=ru
  have e:(PyData.int i).shown=((toString i:String):Str):=PyData.shown_int i
  rw [e] at q
  have hl:i.natAbs.log2 < 1920:=by simpa [PyData.showable] using hsh
  exact P.repr_of_int hl ⟨.str _,H,I.tok _,⟨_,rfl⟩,q⟩
 | str y =>
  unfold DV at hd
  subst hd
  obtain ⟨t,rfl⟩:=ru
  have e:(PyData.str y).shown=reprText y:=PyData.shown_str y
  rw [e] at q hsz
  exact P.repr_of_str ⟨.str _,H,I.tok _,⟨_,rfl⟩,q⟩ hsz
 | list ds =>
  have hd':=hd
  unfold DV at hd'
  obtain ⟨a,ys,rfl,_,_⟩:=hd'
  cases ru
  exact repr_of_reads' rd hsh (PyData.noDict_hsm nd) hg (by omega) (fun _ _ e=>e) (fun h' u tk hk=>⟨.str _,H,I.kept (t':=tk) hk,⟨_,rfl⟩,q⟩) hsz
 | tuple ds =>
  have hd':=hd
  unfold DV at hd'
  obtain ⟨a,ys,rfl,_,_⟩:=hd'
  cases ru
  exact repr_of_reads' rd hsh (PyData.noDict_hsm nd) hg (by omega) (fun _ _ e=>e) (fun h' u tk hk=>⟨.str _,H,I.kept (t':=tk) hk,⟨_,rfl⟩,q⟩) hsz
 | dict _ =>
  unfold DV at hd
  exact hd.elim
end
end L2
namespace L2
open PySem PySem.Spec PyProof.Rows
section
variable {prog:Program} {w:World} {A:Around} {E:Value→Shared→Prop} {s:Shared}
end
end L2
namespace L2
open PySem PySem.Spec PyProof.Rows
section
variable {prog:Program} {w:World} {A:Around} {E:Value→Shared→Prop} {s:Shared}
end
section
variable {X:Cx} {K:PySem.W.Frag}
end
end L2
namespace L2
open PySem PySem.Spec PyProof.Rows
section
open PySem.SeqAt
end
end L2
namespace L2
open PySem PySem.Spec PyProof.Rows
def Rp (H:Hp) (v:V) (txt:Str):Prop:=(∃ d,DV H v d∧d.showable=true∧d.depth≤60∧d.shown.length≤sizeLine∧txt=d.shown)∨∃ a,v=.ref a∧H a=some (.dK [])∧txt=("{}" : Str)
section
variable {X:Cx}
def BR:List V→Hp→VK→Prop:=fun xs H Q=>∃ x txt,xs=[x]∧Rp H x txt∧Q (.str txt) H
theorem oJ (hg:X.A.guards=some []) (hu:X.A.units+64 < cLine):CallR X (.builtin "repr") BR:=by
 intro pins s σ H xs us Q I r h
 obtain ⟨x,txt,rfl,hd,q⟩:=h
 rcases hd with ⟨d,h1,h2,h3,h4,rfl⟩ | ⟨a,rfl,ha,rfl⟩
 ·exact p7 hg hu pins s σ H _ us Q I r ⟨x,d,rfl,h1,h2,h3,h4,q⟩
 ·obtain ⟨u,rfl,ru⟩:=cz r
  cases ru
  obtain ⟨_,hsys,vs,kv,dd⟩:=kd I.hok ha
  have hv:vs=[]:=by
   have e:=KV.length kv
   exact List.length_eq_zero_iff.mp e.symm
  subst hv
  have rd:Reads s.heap (.ref a) (.dict []) (a :: []++[]):=by
   obtain ⟨o,es,n,g1,g2,g3,_,g5,_⟩:=dd
   have h0:es.toList=[]:=by
    generalize es.toList=L at g5
    cases g5
    rfl
   refine .dict g1 g2.1 g3 ?_ ?_
   ·rw [h0]
    exact .nil
   ·rw [h0]
    exact .nil
  have e:(PyData.dict []).shown=("{}" : Str):=by decide +kernel
  refine repr_of_reads' rd (by decide +kernel) (fun _ hm=>?_) hg (by show X.A.units+(1+1) < cLine; omega) (fun _ _ e=>e) (fun h' u tk hk=>⟨.str _,H,I.kept (t':=tk) hk,⟨_,rfl⟩,?_⟩) (by rw [e]; decide)
  ·have hm':sysModules=a:=by simpa using hm
   rw [← hm'] at hsys
   simp at hsys
  ·rw [e]
   exact q
end
end L2
namespace L2
open PySem PySem.Spec PyProof.Rows
abbrev D:=PyData
abbrev En:=List (Option D)
abbrev AS:=Addr→Prop
def dn:Nat→Nat
 | 0=>0
 | 1=>0
 | 2=>1
 | n+3=>n+3
theorem kE:∀ {a b:Nat},a≤b→dn a≤dn b
 | 0,_,_=>Nat.zero_le _
 | 1,_,_=>Nat.zero_le _
 | 2,2,_=>Nat.le_refl _
 | 2,b+3,_=>by show 1≤b+3; omega
 | a+3,b+3,h=>h
 | a+3,0,h=>by omega
 | a+3,1,h=>by omega
 | a+3,2,h=>by omega
 | 2,0,h=>by omega
 | 2,1,h=>by omega
def kD:Key→D
 | .inl i=>.int i
 | .inr x=>.str x
def FzL (K:PySem.W.Frag) (O:AS) (H:Hp) (a:Addr) (vs:List V):Prop:=(Rd H a (.lst vs)∧¬ O a)∨∀ H',SqL K H' a vs
def FzT (K:PySem.W.Frag) (O:AS) (H:Hp) (a:Addr) (vs:List V):Prop:=H a=some (.tup vs)∧¬ O a
theorem FzL.sq {K:PySem.W.Frag} {O:AS} {H:Hp} {a:Addr} {vs:List V} (h:FzL K O H a vs):SqL K H a vs:=h.elim (fun h=>.inl h.1) fun h=>h H
theorem FzT.sq {K:PySem.W.Frag} {O:AS} {H:Hp} {a:Addr} {vs:List V} (h:FzT K O H a vs):SqT K H a vs:=SqT.of h.1
mutual
def Ow (K:PySem.W.Frag) (O:AS) (H:Hp):D→Nat→V→AS→Prop
 | .none,_,v,_=>v=.non
 | .bool b,_,v,_=>v=.bl b
 | .int i,_,v,_=>v=.int i
 | .str x,_,v,_=>v=.str x
 | .tuple ts,d,v,F=>∃ a vs,v=.ref a∧((d=0∧FzT K O H a vs∧Ows K O H ts 0 vs F)∨(d≠0∧H a=some (.tup vs)∧F a∧∃ F':AS,(∀ b,F' b→F b∧b≠a)∧Ows K O H ts (dn d) vs F'))
 | .list ts,d,v,F=>∃ a vs,v=.ref a∧((d=0∧FzL K O H a vs∧Ows K O H ts 0 vs F)∨(d≠0∧H a=some (.lst vs)∧F a∧∃ F':AS,(∀ b,F' b→F b∧b≠a)∧Ows K O H ts (dn d) vs F'))
 | .dict ks,d,v,F=>∃ a vs,v=.ref a∧((d=0∧H a=some (.dK vs)∧¬ O a∧Owd K O H ks 0 vs F)∨(d≠0∧H a=some (.dK vs)∧F a∧∃ F':AS,(∀ b,F' b→F b∧b≠a)∧Owd K O H ks (dn d) vs F'))
def Ows (K:PySem.W.Frag) (O:AS) (H:Hp):List D→Nat→List V→AS→Prop
 | [],_,vs,_=>vs=[]
 | t :: ts,d,vs,F=>∃ v r,∃ F1 F2:AS,vs=v :: r∧(∀ b,F1 b→F b)∧(∀ b,F2 b→F b)∧(∀ b,F1 b→¬ F2 b)∧Ow K O H t d v F1∧Ows K O H ts d r F2
def Owd (K:PySem.W.Frag) (O:AS) (H:Hp):List (D × D)→Nat→List (Key × V)→AS→Prop
 | [],_,vs,_=>vs=[]
 | (k,t) :: ts,d,vs,F=>∃ q v r,∃ F1 F2:AS,vs=(q,v) :: r∧k=kD q∧(∀ b,F1 b→F b)∧(∀ b,F2 b→F b)∧(∀ b,F1 b→¬ F2 b)∧Ow K O H t d v F1∧Owd K O H ts d r F2
end
section
variable {K:PySem.W.Frag} {O O':AS} {H H':Hp}
theorem Rd.mv {a:Addr} {u:HO} (hk:∀ o,H a=some o→H' a=some o) (h:Rd H a u):Rd H' a u:=by
 rcases h with h | ⟨o,h⟩
 ·exact .inl (hk _ h)
 ·exact .inr ⟨o,hk _ h⟩
theorem Rd.there {a:Addr} {u:HO} (h:Rd H a u):H a≠none:=by
 rcases h with h | ⟨o,h⟩ <;> rw [h] <;> exact fun z=>nomatch z
structure Mv (O O':AS) (G:AS) (H H':Hp):Prop where
 k:∀ a o,H a=some o→(¬ O a∨G a)→H' a=some o
 o:∀ a,O' a→O a∨H a=none
theorem FzL.mv {G:AS} {a:Addr} {vs:List V} (m:Mv O O' G H H') (h:FzL K O H a vs):FzL K O' H' a vs:=by
 rcases h with ⟨h,n⟩ | h
 ·refine .inl ⟨h.mv fun o e=>m.k _ _ e (.inl n),fun z=>?_⟩
  rcases m.o _ z with z | z
  ·exact n z
  ·exact h.there z
 ·exact .inr h
theorem FzT.mv {G:AS} {a:Addr} {vs:List V} (m:Mv O O' G H H') (h:FzT K O H a vs):FzT K O' H' a vs:=by
 obtain ⟨h,n⟩:=h
 refine ⟨m.k _ _ h (.inl n),fun z=>?_⟩
 rcases m.o _ z with z | z
 ·exact n z
 ·rw [h] at z; cases z
mutual
theorem Ow.mv {G:AS} (m:Mv O O' G H H'):∀ (t:D) {d:Nat} {v:V} {F:AS},(∀ b,F b→G b)→Ow K O H t d v F→Ow K O' H' t d v F
 | .none,_,_,_,_,h=>h
 | .bool _,_,_,_,_,h=>h
 | .int _,_,_,_,_,h=>h
 | .str _,_,_,_,_,h=>h
 | .tuple ts,_,_,_,g,h=>by
  obtain ⟨a,vs,e,⟨h0,h1,h2⟩ | ⟨h0,h1,h2,F',hf,h3⟩⟩:=h
  ·exact ⟨a,vs,e,.inl ⟨h0,h1.mv m,Ows.mv m ts g h2⟩⟩
  ·exact ⟨a,vs,e,.inr ⟨h0,m.k _ _ h1 (.inr (g _ h2)),h2,F',hf,Ows.mv m ts (fun b hb=>g _ (hf b hb).1) h3⟩⟩
 | .list ts,_,_,_,g,h=>by
  obtain ⟨a,vs,e,⟨h0,h1,h2⟩ | ⟨h0,h1,h2,F',hf,h3⟩⟩:=h
  ·exact ⟨a,vs,e,.inl ⟨h0,h1.mv m,Ows.mv m ts g h2⟩⟩
  ·exact ⟨a,vs,e,.inr ⟨h0,m.k _ _ h1 (.inr (g _ h2)),h2,F',hf,Ows.mv m ts (fun b hb=>g _ (hf b hb).1) h3⟩⟩
 | .dict ks,_,_,_,g,h=>by
  obtain ⟨a,vs,e,⟨h0,h1,hn,h2⟩ | ⟨h0,h1,h2,F',hf,h3⟩⟩:=h
  ·refine ⟨a,vs,e,.inl ⟨h0,m.k _ _ h1 (.inl hn),fun z=>?_,Owd.mv m ks g h2⟩⟩
   rcases m.o _ z with z | z
   ·exact hn z
   ·rw [h1] at z; cases z
  ·exact ⟨a,vs,e,.inr ⟨h0,m.k _ _ h1 (.inr (g _ h2)),h2,F',hf,Owd.mv m ks (fun b hb=>g _ (hf b hb).1) h3⟩⟩
theorem Ows.mv {G:AS} (m:Mv O O' G H H'):∀ (ts:List D) {d:Nat} {vs:List V} {F:AS},(∀ b,F b→G b)→Ows K O H ts d vs F→Ows K O' H' ts d vs F
 | [],_,_,_,_,h=>h
 | t :: ts,_,_,_,g,h=>by
  obtain ⟨v,r,F1,F2,e,h1,h2,h3,h4,h5⟩:=h
  exact ⟨v,r,F1,F2,e,h1,h2,h3,Ow.mv m t (fun b hb=>g _ (h1 b hb)) h4,Ows.mv m ts (fun b hb=>g _ (h2 b hb)) h5⟩
theorem Owd.mv {G:AS} (m:Mv O O' G H H'):∀ (ts:List (D × D)) {d:Nat} {vs:List (Key × V)} {F:AS},(∀ b,F b→G b)→Owd K O H ts d vs F→Owd K O' H' ts d vs F
 | [],_,_,_,_,h=>h
 | (k,t) :: ts,_,_,_,g,h=>by
  obtain ⟨q,v,r,F1,F2,e,e2,h1,h2,h3,h4,h5⟩:=h
  exact ⟨q,v,r,F1,F2,e,e2,h1,h2,h3,Ow.mv m t (fun b hb=>g _ (h1 b hb)) h4,Owd.mv m ts (fun b hb=>g _ (h2 b hb)) h5⟩
end
theorem FzL.sub {a:Addr} {vs:List V} (ho:∀ a,O' a→O a) (h:FzL K O H a vs):FzL K O' H a vs:=h.imp (fun h=>⟨h.1,fun z=>h.2 (ho _ z)⟩) id
theorem FzT.sub {a:Addr} {vs:List V} (ho:∀ a,O' a→O a) (h:FzT K O H a vs):FzT K O' H a vs:=⟨h.1,fun z=>h.2 (ho _ z)⟩
mutual
theorem Ow.cut:∀ (t:D) {d d':Nat} {v:V} {F:AS},d'≤d→Ow K O H t d v F→∃ F':AS,(∀ b,F' b→F b)∧∀ O':AS,(∀ a,O' a→O a)→(∀ a,F a→O' a→F' a)→Ow K O' H t d' v F'
 | .none,_,_,_,F,_,h=>⟨F,fun _ z=>z,fun _ _ _=>h⟩
 | .bool _,_,_,_,F,_,h=>⟨F,fun _ z=>z,fun _ _ _=>h⟩
 | .int _,_,_,_,F,_,h=>⟨F,fun _ z=>z,fun _ _ _=>h⟩
 | .str _,_,_,_,F,_,h=>⟨F,fun _ z=>z,fun _ _ _=>h⟩
 | .tuple ts,d,d',_,F,hd,h=>by
  obtain ⟨a,vs,e,⟨h0,h1,h2⟩ | ⟨h0,h1,h2,G,hg,h3⟩⟩:=h
  ·subst h0
   have e0:d'=0:=by omega
   subst e0
   obtain ⟨F',s1,s2⟩:=Ows.cut ts (Nat.le_refl _) h2
   exact ⟨F',s1,fun O' ho hx=>⟨a,vs,e,.inl ⟨rfl,h1.sub ho,s2 O' ho hx⟩⟩⟩
  ·by_cases e0:d'=0
   ·subst e0
    obtain ⟨F',s1,s2⟩:=Ows.cut ts (Nat.zero_le _) h3
    refine ⟨F',fun b hb=>(hg _ (s1 b hb)).1,fun O' ho hx=>⟨a,vs,e,.inl ⟨rfl,⟨h1,fun z=>(hg _ (s1 _ (hx _ h2 z))).2 rfl⟩,s2 O' ho fun b hb=>hx b (hg b hb).1⟩⟩⟩
   ·obtain ⟨F',s1,s2⟩:=Ows.cut ts (kE hd) h3
    refine ⟨fun b=>b=a∨F' b,fun b hb=>hb.elim (fun z=>z ▸ h2) fun z=>(hg _ (s1 b z)).1,fun O' ho hx=>⟨a,vs,e,.inr ⟨e0,h1,.inl rfl,F',fun b hb=>⟨.inr hb,(hg _ (s1 b hb)).2⟩,s2 O' ho fun b hb hz=>?_⟩⟩⟩
    exact (hx b (hg b hb).1 hz).elim (fun z=>absurd z (hg b hb).2) id
 | .list ts,d,d',_,F,hd,h=>by
  obtain ⟨a,vs,e,⟨h0,h1,h2⟩ | ⟨h0,h1,h2,G,hg,h3⟩⟩:=h
  ·subst h0
   have e0:d'=0:=by omega
   subst e0
   obtain ⟨F',s1,s2⟩:=Ows.cut ts (Nat.le_refl _) h2
   exact ⟨F',s1,fun O' ho hx=>⟨a,vs,e,.inl ⟨rfl,h1.sub ho,s2 O' ho hx⟩⟩⟩
  ·by_cases e0:d'=0
   ·subst e0
    obtain ⟨F',s1,s2⟩:=Ows.cut ts (Nat.zero_le _) h3
    refine ⟨F',fun b hb=>(hg _ (s1 b hb)).1,fun O' ho hx=>⟨a,vs,e,.inl ⟨rfl,.inl ⟨.inl h1,fun z=>(hg _ (s1 _ (hx _ h2 z))).2 rfl⟩,s2 O' ho fun b hb=>hx b (hg b hb).1⟩⟩⟩
   ·obtain ⟨F',s1,s2⟩:=Ows.cut ts (kE hd) h3
    refine ⟨fun b=>b=a∨F' b,fun b hb=>hb.elim (fun z=>z ▸ h2) fun z=>(hg _ (s1 b z)).1,fun O' ho hx=>⟨a,vs,e,.inr ⟨e0,h1,.inl rfl,F',fun b hb=>⟨.inr hb,(hg _ (s1 b hb)).2⟩,s2 O' ho fun b hb hz=>?_⟩⟩⟩
    exact (hx b (hg b hb).1 hz).elim (fun z=>absurd z (hg b hb).2) id
 | .dict ts,d,d',_,F,hd,h=>by
  obtain ⟨a,vs,e,⟨h0,h1,hn,h2⟩ | ⟨h0,h1,h2,G,hg,h3⟩⟩:=h
  ·subst h0
   have e0:d'=0:=by omega
   subst e0
   obtain ⟨F',s1,s2⟩:=Owd.cut ts (Nat.le_refl _) h2
   exact ⟨F',s1,fun O' ho hx=>⟨a,vs,e,.inl ⟨rfl,h1,fun z=>hn (ho _ z),s2 O' ho hx⟩⟩⟩
  ·by_cases e0:d'=0
   ·subst e0
    obtain ⟨F',s1,s2⟩:=Owd.cut ts (Nat.zero_le _) h3
    refine ⟨F',fun b hb=>(hg _ (s1 b hb)).1,fun O' ho hx=>⟨a,vs,e,.inl ⟨rfl,h1,fun z=>(hg _ (s1 _ (hx _ h2 z))).2 rfl,s2 O' ho fun b hb=>hx b (hg b hb).1⟩⟩⟩
   ·obtain ⟨F',s1,s2⟩:=Owd.cut ts (kE hd) h3
    refine ⟨fun b=>b=a∨F' b,fun b hb=>hb.elim (fun z=>z ▸ h2) fun z=>(hg _ (s1 b z)).1,fun O' ho hx=>⟨a,vs,e,.inr ⟨e0,h1,.inl rfl,F',fun b hb=>⟨.inr hb,(hg _ (s1 b hb)).2⟩,s2 O' ho fun b hb hz=>?_⟩⟩⟩
    exact (hx b (hg b hb).1 hz).elim (fun z=>absurd z (hg b hb).2) id
theorem Ows.cut:∀ (ts:List D) {d d':Nat} {vs:List V} {F:AS},d'≤d→Ows K O H ts d vs F→∃ F':AS,(∀ b,F' b→F b)∧∀ O':AS,(∀ a,O' a→O a)→(∀ a,F a→O' a→F' a)→Ows K O' H ts d' vs F'
 | [],_,_,_,F,_,h=>⟨F,fun _ z=>z,fun _ _ _=>h⟩
 | t :: ts,_,_,_,F,hd,h=>by
  obtain ⟨v,r,F1,F2,e,h1,h2,h3,h4,h5⟩:=h
  obtain ⟨G1,a1,a2⟩:=Ow.cut t hd h4
  obtain ⟨G2,b1,b2⟩:=Ows.cut ts hd h5
  refine ⟨fun b=>G1 b∨G2 b,fun b hb=>hb.elim (fun z=>h1 _ (a1 _ z)) fun z=>h2 _ (b1 _ z),fun O' ho hx=>⟨v,r,G1,G2,e,fun b=>.inl,fun b=>.inr,fun b z1 z2=>h3 b (a1 b z1) (b1 b z2),a2 O' ho fun b hb hz=>?_,b2 O' ho fun b hb hz=>?_⟩⟩
  ·exact (hx b (h1 b hb) hz).elim id fun z=>absurd (b1 b z) (h3 b hb)
  ·exact (hx b (h2 b hb) hz).elim (fun z=>absurd hb (h3 b (a1 b z))) id
theorem Owd.cut:∀ (ts:List (D × D)) {d d':Nat} {vs:List (Key × V)} {F:AS},d'≤d→Owd K O H ts d vs F→∃ F':AS,(∀ b,F' b→F b)∧∀ O':AS,(∀ a,O' a→O a)→(∀ a,F a→O' a→F' a)→Owd K O' H ts d' vs F'
 | [],_,_,_,F,_,h=>⟨F,fun _ z=>z,fun _ _ _=>h⟩
 | (k,t) :: ts,_,_,_,F,hd,h=>by
  obtain ⟨q,v,r,F1,F2,e,e2,h1,h2,h3,h4,h5⟩:=h
  obtain ⟨G1,a1,a2⟩:=Ow.cut t hd h4
  obtain ⟨G2,b1,b2⟩:=Owd.cut ts hd h5
  refine ⟨fun b=>G1 b∨G2 b,fun b hb=>hb.elim (fun z=>h1 _ (a1 _ z)) fun z=>h2 _ (b1 _ z),fun O' ho hx=>⟨q,v,r,G1,G2,e,e2,fun b=>.inl,fun b=>.inr,fun b z1 z2=>h3 b (a1 b z1) (b1 b z2),a2 O' ho fun b hb hz=>?_,b2 O' ho fun b hb hz=>?_⟩⟩
  ·exact (hx b (h1 b hb) hz).elim id fun z=>absurd (b1 b z) (h3 b hb)
  ·exact (hx b (h2 b hb) hz).elim (fun z=>absurd hb (h3 b (a1 b z))) id
end
mutual
theorem Ow.grow (ho:∀ a,O' a→O a):∀ (t:D) {d:Nat} {v:V} {F F':AS},(∀ b,F b→F' b)→Ow K O H t d v F→Ow K O' H t d v F'
 | .none,_,_,_,_,_,h=>h
 | .bool _,_,_,_,_,_,h=>h
 | .int _,_,_,_,_,_,h=>h
 | .str _,_,_,_,_,_,h=>h
 | .tuple ts,_,_,_,_,hf,h=>by
  obtain ⟨a,vs,e,⟨h0,h1,h2⟩ | ⟨h0,h1,h2,G,hg,h3⟩⟩:=h
  ·exact ⟨a,vs,e,.inl ⟨h0,h1.sub ho,Ows.grow ho ts hf h2⟩⟩
  ·exact ⟨a,vs,e,.inr ⟨h0,h1,hf _ h2,G,fun b hb=>⟨hf _ (hg b hb).1,(hg b hb).2⟩,Ows.grow ho ts (fun _ z=>z) h3⟩⟩
 | .list ts,_,_,_,_,hf,h=>by
  obtain ⟨a,vs,e,⟨h0,h1,h2⟩ | ⟨h0,h1,h2,G,hg,h3⟩⟩:=h
  ·exact ⟨a,vs,e,.inl ⟨h0,h1.sub ho,Ows.grow ho ts hf h2⟩⟩
  ·exact ⟨a,vs,e,.inr ⟨h0,h1,hf _ h2,G,fun b hb=>⟨hf _ (hg b hb).1,(hg b hb).2⟩,Ows.grow ho ts (fun _ z=>z) h3⟩⟩
 | .dict ts,_,_,_,_,hf,h=>by
  obtain ⟨a,vs,e,⟨h0,h1,hn,h2⟩ | ⟨h0,h1,h2,G,hg,h3⟩⟩:=h
  ·exact ⟨a,vs,e,.inl ⟨h0,h1,fun z=>hn (ho _ z),Owd.grow ho ts hf h2⟩⟩
  ·exact ⟨a,vs,e,.inr ⟨h0,h1,hf _ h2,G,fun b hb=>⟨hf _ (hg b hb).1,(hg b hb).2⟩,Owd.grow ho ts (fun _ z=>z) h3⟩⟩
theorem Ows.grow (ho:∀ a,O' a→O a):∀ (ts:List D) {d:Nat} {vs:List V} {F F':AS},(∀ b,F b→F' b)→Ows K O H ts d vs F→Ows K O' H ts d vs F'
 | [],_,_,_,_,_,h=>h
 | t :: ts,_,_,_,_,hf,h=>by
  obtain ⟨v,r,F1,F2,e,h1,h2,h3,h4,h5⟩:=h
  exact ⟨v,r,F1,F2,e,fun b z=>hf _ (h1 b z),fun b z=>hf _ (h2 b z),h3,Ow.grow ho t (fun _ z=>z) h4,Ows.grow ho ts (fun _ z=>z) h5⟩
theorem Owd.grow (ho:∀ a,O' a→O a):∀ (ts:List (D × D)) {d:Nat} {vs:List (Key × V)} {F F':AS},(∀ b,F b→F' b)→Owd K O H ts d vs F→Owd K O' H ts d vs F'
 | [],_,_,_,_,_,h=>h
 | (k,t) :: ts,_,_,_,_,hf,h=>by
  obtain ⟨q,v,r,F1,F2,e,e2,h1,h2,h3,h4,h5⟩:=h
  exact ⟨q,v,r,F1,F2,e,e2,fun b z=>hf _ (h1 b z),fun b z=>hf _ (h2 b z),h3,Ow.grow ho t (fun _ z=>z) h4,Owd.grow ho ts (fun _ z=>z) h5⟩
end
mutual
theorem Ow.full:∀ (t:D) {d:Nat} {v:V} {F:AS},Ow K O H t (d+3) v F→Ow K O' H t (d+3) v F
 | .none,_,_,_,h=>h
 | .bool _,_,_,_,h=>h
 | .int _,_,_,_,h=>h
 | .str _,_,_,_,h=>h
 | .tuple ts,_,_,_,h=>by
  obtain ⟨a,vs,e,⟨h0,h1,h2⟩ | ⟨h0,h1,h2,G,hg,h3⟩⟩:=h
  ·cases h0
  ·exact ⟨a,vs,e,.inr ⟨h0,h1,h2,G,hg,Ows.full ts h3⟩⟩
 | .list ts,_,_,_,h=>by
  obtain ⟨a,vs,e,⟨h0,h1,h2⟩ | ⟨h0,h1,h2,G,hg,h3⟩⟩:=h
  ·cases h0
  ·exact ⟨a,vs,e,.inr ⟨h0,h1,h2,G,hg,Ows.full ts h3⟩⟩
 | .dict ts,_,_,_,h=>by
  obtain ⟨a,vs,e,⟨h0,h1,hn,h2⟩ | ⟨h0,h1,h2,G,hg,h3⟩⟩:=h
  ·cases h0
  ·exact ⟨a,vs,e,.inr ⟨h0,h1,h2,G,hg,Owd.full ts h3⟩⟩
theorem Ows.full:∀ (ts:List D) {d:Nat} {vs:List V} {F:AS},Ows K O H ts (d+3) vs F→Ows K O' H ts (d+3) vs F
 | [],_,_,_,h=>h
 | t :: ts,_,_,_,h=>by
  obtain ⟨v,r,F1,F2,e,h1,h2,h3,h4,h5⟩:=h
  exact ⟨v,r,F1,F2,e,h1,h2,h3,Ow.full t h4,Ows.full ts h5⟩
theorem Owd.full:∀ (ts:List (D × D)) {d:Nat} {vs:List (Key × V)} {F:AS},Owd K O H ts (d+3) vs F→Owd K O' H ts (d+3) vs F
 | [],_,_,_,h=>h
 | (k,t) :: ts,_,_,_,h=>by
  obtain ⟨q,v,r,F1,F2,e,e2,h1,h2,h3,h4,h5⟩:=h
  exact ⟨q,v,r,F1,F2,e,e2,h1,h2,h3,Ow.full t h4,Owd.full ts h5⟩
end
mutual
theorem Ow.any0:∀ (t:D) {v:V} {F F':AS},Ow K O H t 0 v F→Ow K O H t 0 v F'
 | .none,_,_,_,h=>h
 | .bool _,_,_,_,h=>h
 | .int _,_,_,_,h=>h
 | .str _,_,_,_,h=>h
 | .tuple ts,_,_,_,h=>by
  obtain ⟨a,vs,e,⟨h0,h1,h2⟩ | ⟨h0,_⟩⟩:=h
  ·exact ⟨a,vs,e,.inl ⟨rfl,h1,Ows.any0 ts h2⟩⟩
  ·exact absurd rfl h0
 | .list ts,_,_,_,h=>by
  obtain ⟨a,vs,e,⟨h0,h1,h2⟩ | ⟨h0,_⟩⟩:=h
  ·exact ⟨a,vs,e,.inl ⟨rfl,h1,Ows.any0 ts h2⟩⟩
  ·exact absurd rfl h0
 | .dict ts,_,_,_,h=>by
  obtain ⟨a,vs,e,⟨h0,h1,hn,h2⟩ | ⟨h0,_⟩⟩:=h
  ·exact ⟨a,vs,e,.inl ⟨rfl,h1,hn,Owd.any0 ts h2⟩⟩
  ·exact absurd rfl h0
theorem Ows.any0:∀ (ts:List D) {vs:List V} {F F':AS},Ows K O H ts 0 vs F→Ows K O H ts 0 vs F'
 | [],_,_,_,h=>h
 | t :: ts,_,_,_,h=>by
  obtain ⟨v,r,F1,F2,e,_,_,_,h4,h5⟩:=h
  exact ⟨v,r,fun _=>False,fun _=>False,e,fun _ z=>z.elim,fun _ z=>z.elim,fun _ z=>z.elim,Ow.any0 t h4,Ows.any0 ts h5⟩
theorem Owd.any0:∀ (ts:List (D × D)) {vs:List (Key × V)} {F F':AS},Owd K O H ts 0 vs F→Owd K O H ts 0 vs F'
 | [],_,_,_,h=>h
 | (k,t) :: ts,_,_,_,h=>by
  obtain ⟨q,v,r,F1,F2,e,e2,_,_,_,h4,h5⟩:=h
  exact ⟨q,v,r,fun _=>False,fun _=>False,e,e2,fun _ z=>z.elim,fun _ z=>z.elim,fun _ z=>z.elim,Ow.any0 t h4,Owd.any0 ts h5⟩
end
theorem Ow.fz {t:D} {d:Nat} {v:V} {F F2:AS} (ho:∀ a,O' a→O a) (hn:∀ a,F a→¬ O' a) (h:Ow K O H t d v F):Ow K O' H t 0 v F2:=by
 obtain ⟨F',s1,s2⟩:=Ow.cut t (Nat.zero_le d) h
 exact Ow.any0 t (s2 O' ho fun a z1 z2=>absurd z2 (hn a z1))
end
def U (A B:AS):AS:=fun a=>A a∨B a
def Own (R:Nat→AS) (Ox:AS):AS:=fun a=>(∃ i,R i a)∨Ox a
theorem dG {A B:AS} (h:∀ a,A a↔B a):A=B:=funext fun a=>propext (h a)
structure EnvOk (K:PySem.W.Frag) (ds:List Nat) (Ox:AS) (H:Hp) (σ:St) (en:En) (R:Nat→AS):Prop where
 at_:∀ (i:Nat) (t:D),en[i]?=some (some t)→∃ v d,σ[i]?=some (some v)∧ds[i]?=some d∧Ow K (Own R Ox) H t d v (R i)
 dj:∀ i j a,R i a→R j a→i=j
 dx:∀ i a,R i a→¬ Ox a
 dom:∀ a,Own R Ox a→∃ o,H a=some o
 l1:en.length=σ.length
 l2:ds.length=σ.length
structure Post (K:PySem.W.Frag) (p:Bool) (ds':List Nat) (Ox:AS) (σ:St) (H:Hp) (en:En) (R:Nat→AS) (en':En) (H':Hp) (R':Nat→AS) (F:AS):Prop where
 env:EnvOk K ds' (U F Ox) H' σ en' R'
 fx:∀ a,F a→¬ Ox a
 keep:∀ a o,H a=some o→(∀ i,¬ R i a)→H' a=some o
 own:∀ a,(F a∨∃ i,R' i a)→(∃ i,R i a)∨H a=none
 dom:∀ a o,H a=some o→∃ o',H' a=some o'
 pure:p=true→en'=en∧R'=R∧∀ a o,H a=some o→H' a=some o
section
variable {K:PySem.W.Frag} {p p1 p2:Bool} {ds ds1 ds2 ds':List Nat} {Ox Ox':AS} {H H':Hp} {σ:St} {en en' en1 en2:En} {R R':Nat→AS} {d d1 d2:Nat} {t1 t2:D}
theorem EnvOk.grow (e:EnvOk K ds Ox H σ en R) (hk:∀ a o,H a=some o→H' a=some o) {F:AS} (hf:∀ a,F a→H a=none∧∃ o,H' a=some o):EnvOk K ds (U F Ox) H' σ en R:=by
 have fo:∀ a,F a→¬ Own R Ox a:=fun a z z2=>by
  obtain ⟨o,q⟩:=e.dom a z2
  rw [(hf a z).1] at q
  cases q
 refine ⟨fun i t h=>?_,e.dj,fun i a h z=>?_,fun a h=>?_,e.l1,e.l2⟩
 ·obtain ⟨v,d,h1,h2,h3⟩:=e.at_ i t h
  refine ⟨v,d,h1,h2,Ow.mv (G:=R i) ⟨fun a o q _=>hk a o q,fun a z=>?_⟩ t (fun _ z=>z) h3⟩
  rcases z with z | z | z
  ·exact .inl (.inl z)
  ·exact .inr (hf a z).1
  ·exact .inl (.inr z)
 ·rcases z with z | z
  ·exact fo a z (.inl ⟨i,h⟩)
  ·exact e.dx i a h z
 ·rcases h with h | h | h
  ·obtain ⟨o,q⟩:=e.dom a (.inl h)
   exact ⟨o,hk a o q⟩
  ·exact (hf a h).2
  ·obtain ⟨o,q⟩:=e.dom a (.inr h)
   exact ⟨o,hk a o q⟩
theorem EnvOk.fewer (e:EnvOk K ds Ox H σ en R) (h:∀ a,Ox' a→Ox a):EnvOk K ds Ox' H σ en R:=by
 refine ⟨fun i t q=>?_,e.dj,fun i a z1 z2=>e.dx i a z1 (h a z2),fun a z=>e.dom a (z.imp id (h a)),e.l1,e.l2⟩
 obtain ⟨v,d,h1,h2,h3⟩:=e.at_ i t q
 exact ⟨v,d,h1,h2,Ow.grow (fun a z=>z.imp id (h a)) t (fun _ z=>z) h3⟩
def tF (K:PySem.W.Frag) (p:Bool) (ds ds':List Nat) (d:Nat) (f:En→Option (D × En)):TE:=fun σ H Q =>
 ∃ Ox en R t en',EnvOk K ds Ox H σ en R∧f en=some (t,en')∧∀ v H' R' F,Post K p ds' Ox σ H en R en' H' R' F→Ow K (Own R' (U F Ox)) H' t d v F→Q v H'
theorem Post.refl (e:EnvOk K ds Ox H σ en R):Post K p ds Ox σ H en R en H R (fun _=>False):=by
 have eq:U (fun _=>False) Ox=Ox:=dG fun a=>⟨fun z=>z.elim (fun z=>z.elim) id,.inr⟩
 exact ⟨eq.symm ▸ e,fun _ z=>z.elim,fun _ _ q _=>q,fun a z=>z.elim (fun z=>z.elim) .inl,fun a o q=>⟨o,q⟩,fun _=>⟨rfl,rfl,fun _ _ q=>q⟩⟩
theorem Post.new (e:EnvOk K ds Ox H σ en R) (hk:∀ a o,H a=some o→H' a=some o) {F:AS} (hf:∀ a,F a→H a=none∧∃ o,H' a=some o):Post K p ds Ox σ H en R en H' R F:=by
 refine ⟨e.grow hk hf,fun a z z2=>?_,fun a o q _=>hk a o q,fun a z=>z.elim (fun z=>.inr (hf a z).1) .inl,fun a o q=>⟨o,hk a o q⟩,fun _=>⟨rfl,rfl,hk⟩⟩
 obtain ⟨o,q⟩:=e.dom a (.inr z2)
 rw [(hf a z).1] at q
 cases q
theorem Post.trans {H1 H2:Hp} {R1 R2:Nat→AS} {F1 F2:AS} (P1:Post K p1 ds1 Ox σ H en R en1 H1 R1 F1) (P2:Post K p2 ds2 (U F1 Ox) σ H1 en1 R1 en2 H2 R2 F2) :
  Post K (p1 && p2) ds2 Ox σ H en R en2 H2 R2 (U F1 F2):=by
 have eq:U F2 (U F1 Ox)=U (U F1 F2) Ox:=dG fun a=>by unfold U; exact ⟨fun z=>by rcases z with z | z | z; exact .inl (.inr z); exact .inl (.inl z); exact .inr z,fun z=>by rcases z with (z | z) | z; exact .inr (.inl z); exact .inl z; exact .inr (.inr z)⟩
 have n1:∀ a,H1 a=none→H a=none:=fun a z=>by
  cases q:H a with
  | none=>rfl
  | some o =>
   obtain ⟨o',q'⟩:=P1.dom a o q
   rw [z] at q'
   cases q'
 refine ⟨eq ▸ P2.env,fun a z z2=>?_,fun a o q n=>?_,fun a z=>?_,fun a o q=>?_,fun hp=>?_⟩
 ·rcases z with z | z
  ·exact P1.fx a z z2
  ·exact P2.fx a z (.inr z2)
 ·refine P2.keep a o (P1.keep a o q n) fun i z=>?_
  rcases P1.own a (.inr ⟨i,z⟩) with ⟨j,z⟩ | z
  ·exact n j z
  ·rw [q] at z; cases z
 ·rcases z with (z | z) | z
  ·exact P1.own a (.inl z)
  ·rcases P2.own a (.inl z) with z | z
   ·exact P1.own a (.inr z)
   ·exact .inr (n1 a z)
  ·rcases P2.own a (.inr z) with z | z
   ·exact P1.own a (.inr z)
   ·exact .inr (n1 a z)
 ·obtain ⟨o',q'⟩:=P1.dom a o q
  exact P2.dom a o' q'
 ·have h1:p1=true:=by cases p1 <;> simp_all
  have h2:p2=true:=by cases p2 <;> simp_all
  obtain ⟨a1,a2,a3⟩:=P1.pure h1
  obtain ⟨b1,b2,b3⟩:=P2.pure h2
  exact ⟨b1.trans a1,b2.trans a2,fun a o q=>b3 a o (a3 a o q)⟩
theorem Ow.over {H1 H2:Hp} {R1 R2:Nat→AS} {F1 F2:AS} {t:D} {v:V} (P1:EnvOk K ds1 (U F1 Ox) H1 σ en1 R1) (P2:Post K p2 ds2 (U F1 Ox) σ H1 en1 R1 en2 H2 R2 F2) (h:Ow K (Own R1 (U F1 Ox)) H1 t d v F1) :
  Ow K (Own R2 (U (U F1 F2) Ox)) H2 t d v F1:=by
 refine Ow.mv (G:=F1) ⟨fun a o q z=>P2.keep a o q fun i zi=>?_,fun a z=>?_⟩ t (fun _ z=>z) h
 ·rcases z with z | z
  ·exact z (.inl ⟨i,zi⟩)
  ·exact P1.dx i a zi (.inl z)
 ·rcases z with z | (z | z) | z
  ·rcases P2.own a (.inr z) with z | z
   ·exact .inl (.inl z)
   ·exact .inr z
  ·exact .inl (.inr (.inl z))
  ·rcases P2.own a (.inl z) with z | z
   ·exact .inl (.inl z)
   ·exact .inr z
  ·exact .inl (.inr (.inr z))
theorem kj {F1 F2:AS}:U F2 (U F1 Ox)=U (U F1 F2) Ox:=dG fun a=>by unfold U; exact ⟨fun z=>by rcases z with z | z | z; exact .inl (.inr z); exact .inl (.inl z); exact .inr z,fun z=>by rcases z with (z | z) | z; exact .inr (.inl z); exact .inl z; exact .inr (.inr z)⟩
theorem two {f g:En→Option (D × En)} {Q:V→V→Hp→Prop} (e:EnvOk K ds Ox H σ en R) (h1:f en=some (t1,en1)) (h2:g en1=some (t2,en2))
  (k:∀ x y H2 R2 F1 F2,Post K (p1 && p2) ds2 Ox σ H en R en2 H2 R2 (U F1 F2)→Ow K (Own R2 (U (U F1 F2) Ox)) H2 t1 d1 x F1→Ow K (Own R2 (U (U F1 F2) Ox)) H2 t2 d2 y F2→Q x y H2) :
  tF K p1 ds ds1 d1 f σ H fun x H1=>tF K p2 ds1 ds2 d2 g σ H1 fun y H2=>Q x y H2:=by
 refine ⟨Ox,en,R,t1,en1,e,h1,fun x H1 R1 F1 P1 o1=>?_⟩
 refine ⟨U F1 Ox,en1,R1,t2,en2,P1.env,h2,fun y H2 R2 F2 P2 o2=>?_⟩
 exact k x y H2 R2 F1 F2 (P1.trans P2) (Ow.over P1.env P2 o1) (kj ▸ o2)
end
end L2
namespace L2
open PySem PySem.Spec PyProof.Rows
abbrev ME:=En→Option (D × En)
abbrev MT:=En→Option (Bool × En)
abbrev MA:=En→Option (List (D ⊕ Nat) × En)
def ac (i:Nat):ME:=fun en=>(en[i]?).join.map fun t=>(t,en)
def eMv (i:Nat):ME:=fun en=>(en[i]?).join.map fun t=>(t,en.set i none)
def eC (t:D):ME:=fun en=>some (t,en)
def e1 (g:D→Option D) (f:ME):ME:=fun en=>(f en).bind fun r=>(g r.1).map fun t=>(t,r.2)
def e2 (g:D→D→Option D) (f1 f2:ME):ME:=fun en=>(f1 en).bind fun r=>(f2 r.2).bind fun q=>(g r.1 q.1).map fun t=>(t,q.2)
def iV (f g:ME):ME:=fun en=>(f en).bind fun r=>match r.1 with
 | .bool true=>g r.2
 | .bool false=>some (.bool false,r.2)
 | _=>none
def eOr (f g:ME):ME:=fun en=>(f en).bind fun r=>match r.1 with
 | .bool true=>some (.bool true,r.2)
 | .bool false=>g r.2
 | _=>none
def kB (f:ME):ME:=fun en=>(f en).bind fun r=>match r.1 with
 | .bool b=>some (.bool (!b),r.2)
 | _=>none
def eIf (c:MT) (f g:ME):ME:=fun en=>(c en).bind fun r=>if r.1 then f r.2 else g r.2
def tV (f:ME):MT:=fun en=>(f en).bind fun r=>match r.1 with
 | .bool b=>some (b,r.2)
 | _=>none
def cZ (f g:MT):MT:=fun en=>(f en).bind fun r=>if r.1 then g r.2 else some (false,r.2)
def bOr (f g:MT):MT:=fun en=>(f en).bind fun r=>if r.1 then some (true,r.2) else g r.2
def fV (f:MT):MT:=fun en=>(f en).map fun r=>(!r.1,r.2)
def ah:MA:=fun en=>some ([],en)
def af (f:ME) (r:MA):MA:=fun en=>(f en).bind fun x=>(r x.2).map fun y=>(.inl x.1 :: y.1,y.2)
def aH (i:Nat) (r:MA):MA:=fun en=>(en[i]?).join.bind fun _=>(r en).map fun y=>(.inr i :: y.1,y.2)
def bz:List (D ⊕ Nat)→Option (List D)
 | []=>some []
 | .inl t :: r=>(bz r).map (t :: ·)
 | .inr _ :: _=>none
def eN (g:List D→Option D) (fa:MA):ME:=fun en=>(fa en).bind fun r=>(bz r.1).bind fun ts=>(g ts).map fun t=>(t,r.2)
def NewTo (H H':Hp) (F:AS):Prop:=(∀ a o,H a=some o→H' a=some o)∧∀ a,F a→H a=none∧∃ o,H' a=some o
def NoA:AS:=fun _=>False
theorem fw {A:AS}:U NoA A=A:=dG fun a=>⟨fun z=>z.elim (fun z=>z.elim) id,.inr⟩
def rF1 (K:PySem.W.Frag) (g:D→Option D) (d:Nat):V→Hp→VK→Prop:=fun x H Q=>∃ (O:AS) (a t:D),Ow K O H a 0 x NoA∧(∀ a,O a→∃ o,H a=some o)∧g a=some t∧∀ v H' F,NewTo H H' F→Ow K (U F O) H' t d v F→Q v H'
def rF2 (K:PySem.W.Frag) (g:D→D→Option D) (d:Nat):R2:=fun x y H Q=>∃ (O:AS) (a b t:D),Ow K O H a 0 x NoA∧Ow K O H b 0 y NoA∧(∀ a,O a→∃ o,H a=some o)∧g a b=some t∧∀ v H' F,NewTo H H' F→Ow K (U F O) H' t d v F→Q v H'
def rFn (K:PySem.W.Frag) (g:List D→Option D) (d:Nat):List V→Hp→VK→Prop:=fun xs H Q=>∃ (O:AS) (ts:List D) (t:D),Ows K O H ts 0 xs NoA∧(∀ a,O a→∃ o,H a=some o)∧g ts=some t∧∀ v H' F,NewTo H H' F→Ow K (U F O) H' t d v F→Q v H'
section
variable {K:PySem.W.Frag} {p p1 p2:Bool} {ds ds0 ds1 ds2 ds':List Nat} {Ox Ox':AS} {H H':Hp} {σ:St} {en en' en1 en2:En} {R R':Nat→AS} {d d' d1 d2:Nat} {t t1 t2:D} {Q:VK} {f f1 f2 fa fb:ME}
theorem lG {F:AS}:U F (Own R Ox)=Own R (U F Ox):=dG fun a=>by
 unfold U Own
 exact ⟨fun z=>by rcases z with z | z | z; exact .inr (.inl z); exact .inl z; exact .inr (.inr z),fun z=>by rcases z with z | z | z; exact .inr (.inl z); exact .inl z; exact .inr (.inr z)⟩
theorem Post.fin {H1:Hp} {F0 F:AS} (P:Post K p ds' Ox σ H en R en' H1 R' F0) (n:NewTo H1 H' F):Post K p ds' Ox σ H en R en' H' R' F:=by
 have e:=P.env.fewer (Ox':=Ox) fun a z=>.inr z
 have n1:∀ a,H1 a=none→H a=none:=fun a z=>by
  cases q:H a with
  | none=>rfl
  | some o =>
   obtain ⟨o',q'⟩:=P.dom a o q
   rw [z] at q'
   cases q'
 refine ⟨e.grow n.1 n.2,fun a z z2=>?_,fun a o q nn=>n.1 a o (P.keep a o q nn),fun a z=>?_,fun a o q=>?_,fun hp=>?_⟩
 ·obtain ⟨o,q⟩:=e.dom a (.inr z2)
  rw [(n.2 a z).1] at q
  cases q
 ·rcases z with z | z
  ·exact .inr (n1 a (n.2 a z).1)
  ·exact P.own a (.inr z)
 ·obtain ⟨o',q'⟩:=P.dom a o q
  exact ⟨o',n.1 a o' q'⟩
 ·obtain ⟨a1,a2,a3⟩:=P.pure hp
  exact ⟨a1,a2,fun a o q=>n.1 a o (a3 a o q)⟩
theorem Post.less {F F':AS} (P:Post K p ds' Ox σ H en R en' H' R' F) (h:∀ a,F' a→F a):Post K p ds' Ox σ H en R en' H' R' F' :=
 ⟨P.env.fewer fun a z=>z.imp (h a) id,fun a z=>P.fx a (h a z),P.keep,fun a z=>P.own a (z.imp (h a) id),P.dom,P.pure⟩
theorem Ow.letgo {F F0:AS} {v:V} (P:Post K p ds' Ox σ H en R en' H' R' F0) (hf:∀ a,F a→F0 a) (h:Ow K (Own R' (U F0 Ox)) H' t d v F):Ow K (Own R' Ox) H' t 0 v NoA:=by
 refine Ow.fz (fun a z=>z.imp id .inr) (fun a z z2=>?_) h
 rcases z2 with ⟨i,z2⟩ | z2
 ·exact P.env.dx i a z2 (.inl (hf a z))
 ·exact P.fx a (hf a z) z2
theorem Post.doms {F0:AS} (P:Post K p ds' Ox σ H en R en' H' R' F0):∀ a,Own R' Ox a→∃ o,H' a=some o:=fun a z=>P.env.dom a (z.imp id .inr)
theorem Ep (hd:ds[i]?=some 0) (h:tF K true ds ds 0 (ac i) σ H Q):eE i σ H Q:=by
 obtain ⟨Ox,en,R,t,en',e,hf,k⟩:=h
 unfold ac at hf
 cases q:en[i]? with
 | none=>rw [q] at hf; cases hf
 | some o =>
  rw [q] at hf
  cases o with
  | none=>cases hf
  | some t' =>
   cases hf
   obtain ⟨v,d,h1,h2,h3⟩:=e.at_ i t q
   rw [hd] at h2
   cases h2
   exact ⟨v,h1,k v H R NoA (Post.refl e) (by rw [fw]; exact Ow.any0 t h3)⟩
theorem f_c {v:V} (hv:∀ K O H F,Ow K O H t 3 v F) (h:tF K true ds ds 3 (eC t) σ H Q):tC v σ H Q:=by
 obtain ⟨Ox,en,R,t',en',e,hf,k⟩:=h
 cases hf
 exact k v H R NoA (Post.refl e) (hv _ _ _ _)
theorem Es (hd:d'≤d) (h:tF K p ds ds' d' f σ H Q):tF K p ds ds' d f σ H Q:=by
 obtain ⟨Ox,en,R,t,en',e,hf,k⟩:=h
 refine ⟨Ox,en,R,t,en',e,hf,fun v H' R' F P o=>?_⟩
 obtain ⟨F',s1,s2⟩:=Ow.cut t hd o
 refine k v H' R' F' (P.less s1) (s2 _ (fun a z=>z.imp id fun z=>z.imp (s1 a) id) fun a z z2=>?_)
 rcases z2 with ⟨i,z2⟩ | z2 | z2
 ·exact absurd (.inl z) (P.env.dx i a z2)
 ·exact z2
 ·exact absurd z2 (P.fx a z)
theorem jh (hp:p'=true→p=true) (h:tF K p' ds ds' d f σ H Q):tF K p ds ds' d f σ H Q:=by
 obtain ⟨Ox,en,R,t,en',e,hf,k⟩:=h
 exact ⟨Ox,en,R,t,en',e,hf,fun v H' R' F P o=>k v H' R' F ⟨P.env,P.fx,P.keep,P.own,P.dom,fun z=>P.pure (hp z)⟩ o⟩
theorem EnvOk.cut (e:EnvOk K ds Ox H σ en R) (hl:ds0.length=ds.length) (hd:∀ (i:Nat) a b,ds0[i]?=some a→ds[i]?=some b→a≤b):∃ R',(∀ i a,R' i a→R i a)∧EnvOk K ds0 Ox H σ en R':=by
 have ch:∀ i,∃ F':AS,(∀ b,F' b→R i b)∧∀ t v d0,en[i]?=some (some t)→σ[i]?=some (some v)→ds0[i]?=some d0→∀ O':AS,(∀ a,O' a→Own R Ox a)→(∀ a,R i a→O' a→F' a)→Ow K O' H t d0 v F':=fun i=>by
  by_cases h:∃ t,en[i]?=some (some t)
  ·obtain ⟨t,ht⟩:=h
   obtain ⟨v,d,h1,h2,h3⟩:=e.at_ i t ht
   cases q:ds0[i]? with
   | none=>exact ⟨NoA,fun _ z=>z.elim,fun _ _ _ _ _ z=>nomatch z⟩
   | some d0 =>
    obtain ⟨F',s1,s2⟩:=Ow.cut t (hd i d0 d q h2) h3
    refine ⟨F',s1,fun t' v' d0' h1' h2' h3' O'=>?_⟩
    rw [ht] at h1'; cases h1'
    rw [h1] at h2'; cases h2'
    cases h3'
    exact s2 O'
  ·exact ⟨NoA,fun _ z=>z.elim,fun t _ _ ht=>absurd ⟨t,ht⟩ h⟩
 refine ⟨fun i=>(ch i).choose,fun i=>(ch i).choose_spec.1,fun i t ht=>?_,fun i j a z1 z2=>e.dj i j a ((ch i).choose_spec.1 a z1) ((ch j).choose_spec.1 a z2),fun i a z=>e.dx i a ((ch i).choose_spec.1 a z),fun a z=>e.dom a (z.imp (fun ⟨i,z⟩=>⟨i,(ch i).choose_spec.1 a z⟩) id),e.l1,hl.trans e.l2⟩
 obtain ⟨v,d,h1,h2,h3⟩:=e.at_ i t ht
 have hi:i < ds0.length:=by rw [hl]; exact (List.getElem?_eq_some_iff.mp h2).1
 refine ⟨v,ds0[i],h1,List.getElem?_eq_getElem hi,(ch i).choose_spec.2 t v _ ht h1 (List.getElem?_eq_getElem hi) _ (fun a z=>z.imp (fun ⟨j,z⟩=>⟨j,(ch j).choose_spec.1 a z⟩) id) fun a z z2=>?_⟩
 rcases z2 with ⟨j,z2⟩ | z2
 ·have:=e.dj i j a z ((ch j).choose_spec.1 a z2)
  subst this
  exact z2
 ·exact absurd z2 (e.dx i a z)
def leD:List Nat→List Nat→Bool
 | [],[]=>true
 | a :: r,b :: s=>decide (a≤b) && leD r s
 | _,_=>false
theorem dg:∀ {a b:List Nat},leD a b=true→a.length=b.length∧∀ (i:Nat) x y,a[i]?=some x→b[i]?=some y→x≤y
 | [],[],_=>⟨rfl,fun i x y h=>by simp at h⟩
 | a :: r,b :: s,h=>by
  unfold leD at h
  rw [Bool.and_eq_true] at h
  obtain ⟨h1,h2⟩:=h
  obtain ⟨h3,h4⟩:=dg h2
  refine ⟨by rw [List.length_cons,List.length_cons,h3],fun i x y e1 e2=>?_⟩
  cases i with
  | zero=>cases e1; cases e2; exact of_decide_eq_true h1
  | succ i=>exact h4 i x y e1 e2
 | [],_ :: _,h=>nomatch h
 | _ :: _,[],h=>nomatch h
theorem EU (hd:leD ds0 ds=true) (h:tF K false ds ds' d f σ H Q):tF K p ds0 ds' d f σ H Q:=by
 obtain ⟨Ox,en,R,t,en',e,hf,k⟩:=h
 obtain ⟨R1,s1,e1⟩:=e.cut (dg hd).1 (dg hd).2
 refine ⟨Ox,en,R1,t,en',e1,hf,fun v H' R' F P o=>k v H' R' F ⟨P.env,P.fx,fun a o q n=>P.keep a o q fun i z=>n i (s1 i a z),fun a z=>(P.own a z).imp (fun ⟨i,z⟩=>⟨i,s1 i a z⟩) id,P.dom,fun z=>nomatch z⟩ o⟩
theorem Ey (hd:leD ds0 ds=true) (h:tF K true ds ds 3 f σ H Q):tF K true ds0 ds0 3 f σ H Q:=by
 obtain ⟨Ox,en,R,t,en',e,hf,k⟩:=h
 obtain ⟨R1,s1,e1⟩:=e.cut (dg hd).1 (dg hd).2
 refine ⟨Ox,en,R1,t,en',e1,hf,fun v H' R' F P o=>?_⟩
 obtain ⟨a1,a2,a3⟩:=P.pure rfl
 subst a1 a2
 have nf:∀ a,F a→H a=none:=fun a z=>by
  rcases P.own a (.inl z) with ⟨i,z2⟩ | z2
  ·exact absurd (.inl z) (P.env.dx i a z2)
  ·exact z2
 have nt:NewTo H H' F:=⟨a3,fun a z=>⟨nf a z,P.env.dom a (.inr (.inl z))⟩⟩
 exact k v H' R F (Post.new e nt.1 nt.2) (Ow.full t o)
theorem Eu {g:D→Option D} (h:tF K p ds ds1 d (e1 g f) σ H Q):tUn (rF1 K g d) (tF K p ds ds1 d1 f) σ H Q:=by
 obtain ⟨Ox,en,R,t,en',e,hf,k⟩:=h
 unfold e1 at hf
 obtain ⟨⟨t1,en1⟩,h1,hf⟩:=Option.bind_eq_some_iff.mp hf
 obtain ⟨t',h3,hf⟩:=Option.map_eq_some_iff.mp hf
 cases hf
 refine ⟨Ox,en,R,t1,en1,e,h1,fun v H' R' F P o=>?_⟩
 refine ⟨Own R' Ox,t1,t,Ow.letgo P (fun _ z=>z) o,P.doms,h3,fun v2 H2 F2 n o2=>k v2 H2 R' F2 (P.fin n) (lG ▸ o2)⟩
theorem j8 {g:D→D→Option D} (h:tF K (p1 && p2) ds ds2 d (e2 g f1 f2) σ H Q):tOp (rF2 K g d) (tF K p1 ds ds1 d1 f1) (tF K p2 ds1 ds2 d2 f2) σ H Q:=by
 obtain ⟨Ox,en,R,t,en',e,hf,k⟩:=h
 unfold e2 at hf
 obtain ⟨⟨t1,en1⟩,h1,hf⟩:=Option.bind_eq_some_iff.mp hf
 obtain ⟨⟨t2,en2⟩,h2,hf⟩:=Option.bind_eq_some_iff.mp hf
 obtain ⟨t',h3,hf⟩:=Option.map_eq_some_iff.mp hf
 cases hf
 refine two e h1 h2 fun x y H2 R2 F1 F2 P o1 o2=>?_
 exact ⟨Own R2 Ox,t1,t2,t,Ow.letgo P (fun _=>.inl) o1,Ow.letgo P (fun _=>.inr) o2,P.doms,h3,fun v2 H3 F3 n o3=>k v2 H3 R2 F3 (P.fin n) (lG ▸ o3)⟩
theorem Post.after {H1:Hp} {R1 R2:Nat→AS} {F1 F:AS} (P1:Post K p1 ds1 Ox σ H en R en1 H1 R1 F1) (P2:Post K p2 ds2 Ox σ H1 en1 R1 en2 H' R2 F):Post K (p1 && p2) ds2 Ox σ H en R en2 H' R2 F:=by
 have P1':=P1.less (F':=NoA) fun _ z=>z.elim
 have P2':Post K p2 ds2 (U NoA Ox) σ H1 en1 R1 en2 H' R2 F:=by rw [fw]; exact P2
 have:=P1'.trans P2'
 rw [fw] at this
 exact this
theorem Post.env0 {F:AS} (P:Post K p ds' Ox σ H en R en' H' R' F):EnvOk K ds' Ox H' σ en' R':=P.env.fewer fun a z=>.inr z
theorem EA (h:tF K (p1 && p2) ds ds1 d (iV f1 f2) σ H Q):xi (tF K p1 ds ds1 d1 f1) (tF K p2 ds1 ds1 d f2) σ H Q:=by
 obtain ⟨Ox,en,R,t,en',e,hf,k⟩:=h
 unfold iV at hf
 obtain ⟨⟨t1,en1⟩,h1,hf⟩:=Option.bind_eq_some_iff.mp hf
 refine ⟨Ox,en,R,t1,en1,e,h1,fun v H1 R1 F1 P1 o1=>?_⟩
 cases t1 with
 | bool b =>
  have ev:v=.bl b:=o1
  refine ⟨b,ev,?_⟩
  cases b with
  | true =>
   rw [if_pos rfl]
   exact ⟨Ox,en1,R1,t,en',P1.env0,hf,fun v2 H2 R2 F2 P2 o2=>k v2 H2 R2 F2 (P1.after P2) o2⟩
  | false =>
   cases hf
   rw [if_neg Bool.false_ne_true]
   refine k _ H1 R1 NoA ?_ rfl
   have:=(P1.less (F':=NoA) fun _ z=>z.elim)
   exact ⟨this.env,this.fx,this.keep,this.own,this.dom,fun hp=>this.pure (by cases p1 <;> simp_all)⟩
 | _=>cases hf
theorem ES (h:tF K (p1 && p2) ds ds1 d (eOr f1 f2) σ H Q):BA (tF K p1 ds ds1 d1 f1) (tF K p2 ds1 ds1 d f2) σ H Q:=by
 obtain ⟨Ox,en,R,t,en',e,hf,k⟩:=h
 unfold eOr at hf
 obtain ⟨⟨t1,en1⟩,h1,hf⟩:=Option.bind_eq_some_iff.mp hf
 refine ⟨Ox,en,R,t1,en1,e,h1,fun v H1 R1 F1 P1 o1=>?_⟩
 cases t1 with
 | bool b =>
  have ev:v=.bl b:=o1
  refine ⟨b,ev,?_⟩
  cases b with
  | false =>
   rw [if_neg Bool.false_ne_true]
   exact ⟨Ox,en1,R1,t,en',P1.env0,hf,fun v2 H2 R2 F2 P2 o2=>k v2 H2 R2 F2 (P1.after P2) o2⟩
  | true =>
   cases hf
   rw [if_pos rfl]
   refine k _ H1 R1 NoA ?_ rfl
   have:=(P1.less (F':=NoA) fun _ z=>z.elim)
   exact ⟨this.env,this.fx,this.keep,this.own,this.dom,fun hp=>this.pure (by cases p1 <;> simp_all)⟩
 | _=>cases hf
theorem Ev (h:tF K p ds ds1 3 (kB f) σ H Q):xa (tF K p ds ds1 d1 f) σ H Q:=by
 obtain ⟨Ox,en,R,t,en',e,hf,k⟩:=h
 unfold kB at hf
 obtain ⟨⟨t1,en1⟩,h1,hf⟩:=Option.bind_eq_some_iff.mp hf
 refine ⟨Ox,en,R,t1,en1,e,h1,fun v H1 R1 F1 P1 o1=>?_⟩
 cases t1 with
 | bool b =>
  cases hf
  exact ⟨b,o1,k _ H1 R1 NoA (P1.less fun _ z=>z.elim) rfl⟩
 | _=>cases hf
def tFT (K:PySem.W.Frag) (p:Bool) (ds ds':List Nat) (f:MT):TT:=fun σ H Q =>
 ∃ Ox en R b en',EnvOk K ds Ox H σ en R∧f en=some (b,en')∧∀ H' R',Post K p ds' Ox σ H en R en' H' R' NoA→Q b H'
variable {c c1 c2:MT} {QT:Bool→Hp→Prop}
theorem pH (h:tFT K p ds ds' (tV f) σ H QT):tB (tF K p ds ds' d f) σ H QT:=by
 obtain ⟨Ox,en,R,b,en',e,hf,k⟩:=h
 unfold tV at hf
 obtain ⟨⟨t1,en1⟩,h1,hf⟩:=Option.bind_eq_some_iff.mp hf
 refine ⟨Ox,en,R,t1,en1,e,h1,fun v H1 R1 F1 P1 o1=>?_⟩
 cases t1 with
 | bool b =>
  cases hf
  exact ⟨_,o1,k H1 R1 (P1.less fun _ z=>z.elim)⟩
 | _=>cases hf
theorem CG (h:tFT K (p1 && p2) ds ds1 (cZ c1 c2) σ H QT):BG (tFT K p1 ds ds1 c1) (tFT K p2 ds1 ds1 c2) σ H QT:=by
 obtain ⟨Ox,en,R,b,en',e,hf,k⟩:=h
 unfold cZ at hf
 obtain ⟨⟨b1,en1⟩,h1,hf⟩:=Option.bind_eq_some_iff.mp hf
 refine ⟨Ox,en,R,b1,en1,e,h1,fun H1 R1 P1=>?_⟩
 cases b1 with
 | true =>
  rw [if_pos rfl]
  exact ⟨Ox,en1,R1,b,en',P1.env0,hf,fun H2 R2 P2=>k H2 R2 (P1.after P2)⟩
 | false =>
  cases hf
  rw [if_neg Bool.false_ne_true]
  exact k H1 R1 ⟨P1.env,P1.fx,P1.keep,P1.own,P1.dom,fun hp=>P1.pure (by cases p1 <;> simp_all)⟩
theorem Eb (h:tFT K (p1 && p2) ds ds1 (bOr c1 c2) σ H QT):tOr (tFT K p1 ds ds1 c1) (tFT K p2 ds1 ds1 c2) σ H QT:=by
 obtain ⟨Ox,en,R,b,en',e,hf,k⟩:=h
 unfold bOr at hf
 obtain ⟨⟨b1,en1⟩,h1,hf⟩:=Option.bind_eq_some_iff.mp hf
 refine ⟨Ox,en,R,b1,en1,e,h1,fun H1 R1 P1=>?_⟩
 cases b1 with
 | false =>
  rw [if_neg Bool.false_ne_true]
  exact ⟨Ox,en1,R1,b,en',P1.env0,hf,fun H2 R2 P2=>k H2 R2 (P1.after P2)⟩
 | true =>
  cases hf
  rw [if_pos rfl]
  exact k H1 R1 ⟨P1.env,P1.fx,P1.keep,P1.own,P1.dom,fun hp=>P1.pure (by cases p1 <;> simp_all)⟩
theorem CD (h:tFT K p ds ds1 (fV c) σ H QT):BB (tFT K p ds ds1 c) σ H QT:=by
 obtain ⟨Ox,en,R,b,en',e,hf,k⟩:=h
 unfold fV at hf
 obtain ⟨⟨b1,en1⟩,h1,hf⟩:=Option.map_eq_some_iff.mp hf
 cases hf
 exact ⟨Ox,en,R,b1,_,e,h1,fun H1 R1 P1=>k H1 R1 P1⟩
theorem CF (hd:leD ds0 ds=true) (h:tFT K true ds ds c σ H QT):tFT K true ds0 ds0 c σ H QT:=by
 obtain ⟨Ox,en,R,t,en',e,hf,k⟩:=h
 obtain ⟨R1,s1,e1⟩:=e.cut (dg hd).1 (dg hd).2
 refine ⟨Ox,en,R1,t,en',e1,hf,fun H' R' P=>?_⟩
 obtain ⟨a1,a2,a3⟩:=P.pure rfl
 subst a1 a2
 exact k H' R (Post.new e a3 fun _ z=>z.elim)
theorem ET (h:tF K (p && (p1 && p2)) ds ds2 d (eIf c f1 f2) σ H Q):tIf (tFT K p ds ds1 c) (tF K p1 ds1 ds2 d f1) (tF K p2 ds1 ds2 d f2) σ H Q:=by
 obtain ⟨Ox,en,R,t,en',e,hf,k⟩:=h
 unfold eIf at hf
 obtain ⟨⟨b1,en1⟩,h1,hf⟩:=Option.bind_eq_some_iff.mp hf
 refine ⟨Ox,en,R,b1,en1,e,h1,fun H1 R1 P1=>?_⟩
 cases b1 with
 | true =>
  rw [if_pos rfl]
  refine ⟨Ox,en1,R1,t,en',P1.env0,hf,fun v H2 R2 F2 P2 o2=>k v H2 R2 F2 ?_ o2⟩
  have:=P1.after P2
  exact ⟨this.env,this.fx,this.keep,this.own,this.dom,fun hp=>this.pure (by cases p <;> cases p1 <;> simp_all)⟩
 | false =>
  rw [if_neg Bool.false_ne_true]
  refine ⟨Ox,en1,R1,t,en',P1.env0,hf,fun v H2 R2 F2 P2 o2=>k v H2 R2 F2 ?_ o2⟩
  have:=P1.after P2
  exact ⟨this.env,this.fx,this.keep,this.own,this.dom,fun hp=>this.pure (by cases p <;> cases p1 <;> simp_all)⟩
end
end L2
namespace L2
open PySem PySem.Spec PyProof.Rows
abbrev Sh:=List (Nat ⊕ Nat)
def OwA (K:PySem.W.Frag) (O:AS) (H:Hp) (σ:St):List (D ⊕ Nat)→Sh→List V→AS→Prop
 | [],ds,vs,_=>ds=[]∧vs=[]
 | .inl t :: as,ds,vs,F=>∃ v r d dr,∃ F1 F2:AS,vs=v :: r∧ds=.inl d :: dr∧(∀ b,F1 b→F b)∧(∀ b,F2 b→F b)∧(∀ b,F1 b→¬ F2 b)∧Ow K O H t d v F1∧OwA K O H σ as dr r F2
 | .inr i :: as,ds,vs,F=>∃ v r dr,vs=v :: r∧ds=.inr i :: dr∧σ[i]?=some (some v)∧OwA K O H σ as dr r F
def tFA (K:PySem.W.Frag) (p:Bool) (ds ds':List Nat) (sh:Sh) (f:MA):TA:=fun σ H Q =>
 ∃ Ox en R as en',EnvOk K ds Ox H σ en R∧f en=some (as,en')∧∀ vs H' R' F,Post K p ds' Ox σ H en R en' H' R' F→OwA K (Own R' (U F Ox)) H' σ as sh vs F→Q vs H'
def aG (fa:MA):ME:=fun en=>(fa en).bind fun r=>(bz r.1).bind fun ts=>if ts.length≤sizeLine then some (.list ts,r.2) else none
def cN (fa:MA):ME:=fun en=>(fa en).bind fun r=>(bz r.1).bind fun ts=>if ts.length≤sizeLine then some (.tuple ts,r.2) else none
section
variable {K:PySem.W.Frag} {p p1 p2:Bool} {ds ds0 ds1 ds2 ds':List Nat} {Ox Ox' O O':AS} {H H':Hp} {σ:St} {en en' en1 en2:En} {R R':Nat→AS} {d d' d1 d2:Nat} {t t1 t2:D} {Q:VK} {f f1 f2:ME} {fa:MA} {sh:Sh} {QA:List V→Hp→Prop} {i:Nat}
theorem Dh (h:tFA K true ds ds [] ah σ H QA):qt σ H QA:=by
 obtain ⟨Ox,en,R,as,en',e,hf,k⟩:=h
 cases hf
 exact k [] H R NoA (Post.refl e) ⟨rfl,rfl⟩
theorem zp (h:tFA K (p1 && p2) ds ds2 (.inl d :: sh) (af f fa) σ H QA):lB (tF K p1 ds ds1 d f) (tFA K p2 ds1 ds2 sh fa) σ H QA:=by
 obtain ⟨Ox,en,R,as,en',e,hf,k⟩:=h
 unfold af at hf
 obtain ⟨⟨t1,en1⟩,h1,hf⟩:=Option.bind_eq_some_iff.mp hf
 obtain ⟨⟨as2,en2⟩,h2,hf⟩:=Option.map_eq_some_iff.mp hf
 cases hf
 refine ⟨Ox,en,R,t1,en1,e,h1,fun x H1 R1 F1 P1 o1=>?_⟩
 refine ⟨U F1 Ox,en1,R1,as2,en2,P1.env,h2,fun vs H2 R2 F2 P2 o2=>?_⟩
 refine k (x :: vs) H2 R2 (U F1 F2) (P1.trans P2) ⟨x,vs,d,sh,F1,F2,rfl,rfl,fun _=>.inl,fun _=>.inr,fun b z1 z2=>P2.fx b z2 (.inl z1),Ow.over P1.env P2 o1,?_⟩
 rw [← kj]
 exact o2
theorem zn (h:tFA K p ds ds2 (.inr i :: sh) (aH i fa) σ H QA):lB (eE i) (tFA K p ds ds2 sh fa) σ H QA:=by
 obtain ⟨Ox,en,R,as,en',e,hf,k⟩:=h
 unfold aH at hf
 obtain ⟨t0,h0,hf⟩:=Option.bind_eq_some_iff.mp hf
 obtain ⟨⟨as2,en2⟩,h2,hf⟩:=Option.map_eq_some_iff.mp hf
 cases hf
 have q:en[i]?=some (some t0):=by
  cases q:en[i]? with
  | none=>rw [q] at h0; cases h0
  | some o=>rw [q] at h0; exact congrArg some h0
 obtain ⟨v,d,h1,_⟩:=e.at_ i t0 q
 exact ⟨v,h1,Ox,en,R,as2,en2,e,h2,fun vs H2 R2 F2 P2 o2=>k (v :: vs) H2 R2 F2 P2 ⟨v,vs,sh,rfl,rfl,h1,o2⟩⟩
def cO (c:Nat):Sh→Bool
 | []=>true
 | .inl d :: r=>decide (c≤d) && cO c r
 | .inr _ :: _=>false
theorem OwA.ows:∀ {as:List (D ⊕ Nat)} {sh:Sh} {vs:List V} {F:AS} {ts:List D} {c:Nat},cO c sh=true→bz as=some ts→OwA K O H σ as sh vs F →
  ∃ F':AS,(∀ b,F' b→F b)∧∀ O':AS,(∀ a,O' a→O a)→(∀ a,F a→O' a→F' a)→Ows K O' H ts c vs F'
 | [],_,_,F,ts,c,_,hv,h=>by
  cases hv
  exact ⟨F,fun _ z=>z,fun _ _ _=>h.2⟩
 | .inl t :: as,_,_,F,ts,c,hs,hv,h=>by
  obtain ⟨v,r,d,dr,F1,F2,e1,e2,s1,s2,s3,h1,h2⟩:=h
  subst e1 e2
  unfold bz at hv
  obtain ⟨ts',hv',e⟩:=Option.map_eq_some_iff.mp hv
  subst e
  unfold cO at hs
  rw [Bool.and_eq_true] at hs
  obtain ⟨G1,a1,a2⟩:=Ow.cut t (of_decide_eq_true hs.1) h1
  obtain ⟨G2,b1,b2⟩:=OwA.ows hs.2 hv' h2
  refine ⟨fun b=>G1 b∨G2 b,fun b hb=>hb.elim (fun z=>s1 _ (a1 _ z)) fun z=>s2 _ (b1 _ z),fun O' ho hx=>⟨v,r,G1,G2,rfl,fun b=>.inl,fun b=>.inr,fun b z1 z2=>s3 b (a1 b z1) (b1 b z2),a2 O' ho fun b hb hz=>?_,b2 O' ho fun b hb hz=>?_⟩⟩
  ·exact (hx b (s1 b hb) hz).elim id fun z=>absurd (b1 b z) (s3 b hb)
  ·exact (hx b (s2 b hb) hz).elim (fun z=>absurd hb (s3 b (a1 b z))) id
 | .inr i :: as,_,_,F,ts,c,_,hv,_=>by cases hv
theorem OwA.len:∀ {as:List (D ⊕ Nat)} {sh:Sh} {vs:List V} {F:AS},OwA K O H σ as sh vs F→vs.length=as.length
 | [],_,_,_,h=>by rw [h.2]; rfl
 | .inl t :: as,_,_,_,h=>by
  obtain ⟨v,r,d,dr,F1,F2,e1,e2,s1,s2,s3,h1,h2⟩:=h
  rw [e1,List.length_cons,List.length_cons,h2.len]
 | .inr i :: as,_,_,_,h=>by
  obtain ⟨v,r,dr,e1,e2,e3,h2⟩:=h
  rw [e1,List.length_cons,List.length_cons,h2.len]
theorem jx:∀ {as:List (D ⊕ Nat)} {ts:List D},bz as=some ts→ts.length=as.length
 | [],_,h=>by cases h; rfl
 | .inl t :: as,_,h=>by
  unfold bz at h
  obtain ⟨ts',hv',e⟩:=Option.map_eq_some_iff.mp h
  subst e
  rw [List.length_cons,List.length_cons,jx hv']
 | .inr _ :: _,_,h=>by cases h
theorem pV {g:List D→Option D} (hs:cO 0 sh=true) (h:tF K p ds ds1 d (eN g fa) σ H Q):tCB (rFn K g d) (tFA K p ds ds1 sh fa) σ H Q:=by
 obtain ⟨Ox,en,R,t,en',e,hf,k⟩:=h
 unfold eN at hf
 obtain ⟨⟨as,en1⟩,h1,hf⟩:=Option.bind_eq_some_iff.mp hf
 obtain ⟨ts,h2,hf⟩:=Option.bind_eq_some_iff.mp hf
 obtain ⟨t',h3,hf⟩:=Option.map_eq_some_iff.mp hf
 cases hf
 refine ⟨Ox,en,R,as,en1,e,h1,fun vs H1 R1 F P o=>?_⟩
 obtain ⟨F',s1,s2⟩:=OwA.ows hs h2 o
 have o2:Ows K (Own R1 Ox) H1 ts 0 vs F':=s2 _ (fun a z=>z.imp id .inr) fun a z z2=>by
  rcases z2 with ⟨i,z2⟩ | z2
  ·exact absurd (.inl z) (P.env.dx i a z2)
  ·exact absurd z2 (P.fx a z)
 exact ⟨Own R1 Ox,ts,t,Ows.any0 ts o2,P.doms,h3,fun v2 H2 F2 n o2=>k v2 H2 R1 F2 (P.fin n) (lG ▸ o2)⟩
theorem Post.add {H1:Hp} {F G:AS} (P:Post K p ds' Ox σ H en R en' H1 R' F) (n:NewTo H1 H' G):Post K p ds' Ox σ H en R en' H' R' (U F G):=by
 have P2:Post K true ds' (U F Ox) σ H1 en' R' en' H' R' G:=Post.new P.env n.1 n.2
 have:=P.trans P2
 rw [Bool.and_true] at this
 exact this
theorem bK {l:Addr} {o:HO} (hl:H l=none):NewTo H (upd H l o) (fun b=>b=l):=by
 refine ⟨fun a u q=>?_,fun a z=>?_⟩
 ·rw [aM]
  ·exact q
  ·intro z
   subst z
   rw [hl] at q
   cases q
 ·subst z
  exact ⟨hl,_,aL⟩
theorem Ew {c:Nat} (hs:cO c sh=true) (hd:dn d=c) (hz:d≠0) (h:tF K p ds ds1 d (aG fa) σ H Q):BC (tFA K p ds ds1 sh fa) σ H Q:=by
 obtain ⟨Ox,en,R,t,en',e,hf,k⟩:=h
 unfold aG at hf
 obtain ⟨⟨as,en1⟩,h1,hf⟩:=Option.bind_eq_some_iff.mp hf
 obtain ⟨ts,h2,hf⟩:=Option.bind_eq_some_iff.mp hf
 by_cases hlen:ts.length≤sizeLine
 case neg=>rw [if_neg hlen] at hf; cases hf
 rw [if_pos hlen] at hf
 cases hf
 refine ⟨Ox,en,R,as,en1,e,h1,fun vs H1 R1 F P o=>⟨?_,fun l hl=>?_⟩⟩
 ·rw [o.len,← jx h2]; exact hlen
 obtain ⟨F',s1,s2⟩:=OwA.ows hs h2 o
 have o2:=s2 (Own R1 (U F' Ox)) (fun a z=>z.imp id fun z=>z.imp (s1 a) id) fun a z z2=>by
  rcases z2 with ⟨i,z2⟩ | z2 | z2
  ·exact absurd (.inl z) (P.env.dx i a z2)
  ·exact z2
  ·exact absurd z2 (P.fx a z)
 have P':=(P.less s1).add (bK (o:=.lst vs) hl)
 have nl:∀ a,F' a→a≠l:=fun a z z2=>by
  subst z2
  obtain ⟨o',q⟩:=P.env.dom a (.inr (.inl (s1 a z)))
  rw [hl] at q
  cases q
 refine k (.ref l) (upd H1 l (.lst vs)) R1 _ P' ⟨l,vs,rfl,.inr ⟨hz,aL,.inr rfl,F',fun b z=>⟨.inl z,nl b z⟩,?_⟩⟩
 rw [hd]
 refine Ows.mv (G:=F') ⟨fun a o q _=>(bK (o:=.lst vs) hl).1 a o q,fun a z=>?_⟩ ts (fun _ z=>z) o2
 rcases z with z | (z | z) | z
 ·exact .inl (.inl z)
 ·exact .inl (.inr (.inl z))
 ·exact .inr (by rw [show a=l from z]; exact hl)
 ·exact .inl (.inr (.inr z))
theorem Er {c:Nat} (hs:cO c sh=true) (hd:dn d=c) (h:tF K p ds ds1 d (cN fa) σ H Q):Bx (tFA K p ds ds1 sh fa) σ H Q:=by
 obtain ⟨Ox,en,R,t,en',e,hf,k⟩:=h
 unfold cN at hf
 obtain ⟨⟨as,en1⟩,h1,hf⟩:=Option.bind_eq_some_iff.mp hf
 obtain ⟨ts,h2,hf⟩:=Option.bind_eq_some_iff.mp hf
 by_cases hlen:ts.length≤sizeLine
 case neg=>rw [if_neg hlen] at hf; cases hf
 rw [if_pos hlen] at hf
 cases hf
 refine ⟨Ox,en,R,as,en1,e,h1,fun vs H1 R1 F P o=>⟨?_,fun l hl=>?_⟩⟩
 ·rw [o.len,← jx h2]; exact hlen
 obtain ⟨F',s1,s2⟩:=OwA.ows hs h2 o
 have o2:=s2 (Own R1 (U F' Ox)) (fun a z=>z.imp id fun z=>z.imp (s1 a) id) fun a z z2=>by
  rcases z2 with ⟨i,z2⟩ | z2 | z2
  ·exact absurd (.inl z) (P.env.dx i a z2)
  ·exact z2
  ·exact absurd z2 (P.fx a z)
 have nl:∀ a,Own R1 (U F' Ox) a→a≠l:=fun a z z2=>by
  subst z2
  obtain ⟨o',q⟩:=P.env.dom a (z.imp id fun z=>z.imp (s1 a) id)
  rw [hl] at q
  cases q
 by_cases hz:d=0
 ·subst hz
  have P':=(P.less s1).add (G:=NoA) (H':=upd H1 l (.tup vs)) ⟨(bK (o:=.tup vs) hl).1,fun _ z=>z.elim⟩
  have eq:U F' NoA=F':=dG fun a=>⟨fun z=>z.elim id fun z=>z.elim,.inl⟩
  rw [eq] at P'
  refine k (.ref l) (upd H1 l (.tup vs)) R1 _ P' ⟨l,vs,rfl,.inl ⟨rfl,⟨aL,fun z=>nl l z rfl⟩,?_⟩⟩
  have hc:c=0:=hd.symm
  subst hc
  exact Ows.mv (G:=F') ⟨fun a o q _=>(bK (o:=.tup vs) hl).1 a o q,fun a z=>.inl z⟩ ts (fun _ z=>z) o2
 ·have P':=(P.less s1).add (bK (o:=.tup vs) hl)
  refine k (.ref l) (upd H1 l (.tup vs)) R1 _ P' ⟨l,vs,rfl,.inr ⟨hz,aL,.inr rfl,F',fun b z=>⟨.inl z,nl b (.inr (.inl z))⟩,?_⟩⟩
  rw [hd]
  refine Ows.mv (G:=F') ⟨fun a o q _=>(bK (o:=.tup vs) hl).1 a o q,fun a z=>?_⟩ ts (fun _ z=>z) o2
  rcases z with z | (z | z) | z
  ·exact .inl (.inl z)
  ·exact .inl (.inr (.inl z))
  ·exact .inr (by rw [show a=l from z]; exact hl)
  ·exact .inl (.inr (.inr z))
end
def spF (K:PySem.W.Frag) (dps:List Nat) (dr:Nat) (F:List D→Option (D × En)):Sp:=fun vs H Q _ =>
 ∃ Ox ts R r outs,EnvOk K dps Ox H (vs.map some) (ts.map some) R∧F ts=some (r,outs) ∧
  ∀ v H' R' Fr,Post K false dps Ox (vs.map some) H (ts.map some) R outs H' R' Fr→Ow K (Own R' (U Fr Ox)) H' r dr v Fr→Q v H'
def c9:List (D ⊕ Nat)→En→Option (List D)
 | [],_=>some []
 | .inl t :: r,en=>(c9 r en).map (t :: ·)
 | .inr i :: r,en=>(en[i]?).join.bind fun t=>(c9 r en).map (t :: ·)
def wb:List (D ⊕ Nat)→En→En→En
 | .inr i :: r,o :: outs,en=>wb r outs (en.set i o)
 | .inl _ :: r,_ :: outs,en=>wb r outs en
 | _,_,en=>en
def ax (F:List D→Option (D × En)) (fa:MA):ME:=fun en=>(fa en).bind fun r=>(c9 r.1 r.2).bind fun ts=>(F ts).map fun q=>(q.1,wb r.1 q.2 r.2)
def gH:Sh→List Nat
 | []=>[]
 | .inl _ :: r=>gH r
 | .inr i :: r=>i :: gH r
def eY (ds:List Nat):Sh→List Nat→Bool
 | [],[]=>true
 | .inl d :: r,q :: s=>decide (d=q) && eY ds r s
 | .inr i :: r,q :: s=>decide (ds[i]?=some q) && (decide (i ∉ gH r) && eY ds r s)
 | _,_=>false
def gK:Sh→Bool
 | []=>true
 | .inl _ :: r=>gK r
 | .inr _ :: _=>false
section
variable {K:PySem.W.Frag} {p p1 p2:Bool} {ds ds0 ds1 ds2 ds' dps:List Nat} {Ox Ox' O O':AS} {H H':Hp} {σ:St} {en en' en1 en2:En} {R R':Nat→AS} {d d' d1 d2 dr:Nat} {t t1 t2:D} {Q:VK} {f f1 f2:ME} {fa:MA} {sh:Sh} {QA:List V→Hp→Prop} {i:Nat}
theorem OwA.parts:∀ {as:List (D ⊕ Nat)} {sh:Sh} {vs:List V} {F:AS},OwA K O H σ as sh vs F →
  ∃ Rp:Nat→AS,(∀ (j:Nat) t,as[j]?=some (.inl t)→∃ v d,vs[j]?=some v∧sh[j]?=some (.inl d)∧Ow K O H t d v (Rp j))∧(∀ (j i:Nat),as[j]?=some (.inr i)→∃ v,vs[j]?=some v∧sh[j]?=some (.inr i)∧σ[i]?=some (some v)) ∧
   (∀ j a,Rp j a→F a)∧(∀ j j' a,Rp j a→Rp j' a→j=j')
 | [],sh,vs,F,h=>⟨fun _=>NoA,fun j t z=>by simp at z,fun j i z=>by simp at z,fun _ _ z=>z.elim,fun _ _ _ z=>z.elim⟩
 | .inl t :: as,sh,vs,F,h=>by
  obtain ⟨v,r,d,dr,F1,F2,e1,e2,s1,s2,s3,h1,h2⟩:=h
  subst e1 e2
  obtain ⟨Rp,a1,a2,a3,a4⟩:=h2.parts
  refine ⟨fun j=>match j with | 0=>F1 | j+1=>Rp j,fun j u hj=>?_,fun j i hj=>?_,fun j a z=>?_,fun j j' a z z'=>?_⟩
  ·cases j with
   | zero =>
    have:t=u:=by simpa using hj
    subst this
    exact ⟨v,d,rfl,rfl,h1⟩
   | succ j=>exact a1 j u (by simpa using hj)
  ·cases j with
   | zero=>simp at hj
   | succ j=>exact a2 j i (by simpa using hj)
  ·cases j with
   | zero=>exact s1 a z
   | succ j=>exact s2 a (a3 j a z)
  ·cases j with
   | zero =>
    cases j' with
    | zero=>rfl
    | succ j'=>exact absurd (a3 j' a z') (s3 a z)
   | succ j =>
    cases j' with
    | zero=>exact absurd (a3 j a z) (s3 a z')
    | succ j'=>rw [a4 j j' a z z']
 | .inr i :: as,sh,vs,F,h=>by
  obtain ⟨v,r,dr,e1,e2,e3,h2⟩:=h
  subst e1 e2
  obtain ⟨Rp,a1,a2,a3,a4⟩:=h2.parts
  refine ⟨fun j=>match j with | 0=>NoA | j+1=>Rp j,fun j u hj=>?_,fun j i' hj=>?_,fun j a z=>?_,fun j j' a z z'=>?_⟩
  ·cases j with
   | zero=>simp at hj
   | succ j=>exact a1 j u (by simpa using hj)
  ·cases j with
   | zero =>
    have:i=i':=by simpa using hj
    subst this
    exact ⟨v,rfl,rfl,e3⟩
   | succ j=>exact a2 j i' (by simpa using hj)
  ·cases j with
   | zero=>exact z.elim
   | succ j=>exact a3 j a z
  ·cases j with
   | zero=>exact z.elim
   | succ j =>
    cases j' with
    | zero=>exact z'.elim
    | succ j'=>rw [a4 j j' a z z']
theorem jP:∀ {as:List (D ⊕ Nat)} {en:En} {ts:List D},c9 as en=some ts→ts.length=as.length∧∀ (j:Nat) t,ts[j]?=some t→as[j]?=some (.inl t)∨∃ i,as[j]?=some (.inr i)∧en[i]?=some (some t)
 | [],_,_,h=>by cases h; exact ⟨rfl,fun j t z=>by simp at z⟩
 | .inl t :: as,en,_,h=>by
  unfold c9 at h
  obtain ⟨ts',h',e⟩:=Option.map_eq_some_iff.mp h
  subst e
  obtain ⟨l,g⟩:=jP h'
  refine ⟨by rw [List.length_cons,List.length_cons,l],fun j u z=>?_⟩
  cases j with
  | zero=>simp at z; subst z; exact .inl rfl
  | succ j=>exact g j u (by simpa using z)
 | .inr i :: as,en,_,h=>by
  unfold c9 at h
  obtain ⟨t,ht,h⟩:=Option.bind_eq_some_iff.mp h
  obtain ⟨ts',h',e⟩:=Option.map_eq_some_iff.mp h
  subst e
  obtain ⟨l,g⟩:=jP h'
  refine ⟨by rw [List.length_cons,List.length_cons,l],fun j u z=>?_⟩
  cases j with
  | zero =>
   simp at z
   subst z
   refine .inr ⟨i,rfl,?_⟩
   cases q:en[i]? with
   | none=>rw [q] at ht; cases ht
   | some o=>rw [q] at ht; exact congrArg some ht
  | succ j=>exact g j u (by simpa using z)
theorem iX:∀ {sh:Sh} {dps:List Nat},eY ds sh dps=true→sh.length=dps.length∧(∀ (j d:Nat),sh[j]?=some (.inl d)→dps[j]?=some d)∧(∀ (j i:Nat),sh[j]?=some (.inr i)→∃ q,dps[j]?=some q∧ds[i]?=some q) ∧
   (∀ (j j' i:Nat),sh[j]?=some (.inr i)→sh[j']?=some (.inr i)→j=j')
 | [],[],_=>⟨rfl,fun j d z=>by simp at z,fun j d z=>by simp at z,fun j j' d z=>by simp at z⟩
 | .inl d :: r,q :: s,h=>by
  unfold eY at h
  rw [Bool.and_eq_true] at h
  obtain ⟨h1,h2⟩:=h
  have h1':=of_decide_eq_true h1
  subst h1'
  obtain ⟨l,a,b,c⟩:=iX h2
  refine ⟨by rw [List.length_cons,List.length_cons,l],fun j u z=>?_,fun j i z=>?_,fun j j' i z z'=>?_⟩
  ·cases j with
   | zero=>simp at z; subst z; rfl
   | succ j=>exact a j u (by simpa using z)
  ·cases j with
   | zero=>simp at z
   | succ j=>exact b j i (by simpa using z)
  ·cases j with
   | zero=>simp at z
   | succ j =>
    cases j' with
    | zero=>simp at z'
    | succ j'=>rw [c j j' i (by simpa using z) (by simpa using z')]
 | .inr i0 :: r,q :: s,h=>by
  unfold eY at h
  rw [Bool.and_eq_true,Bool.and_eq_true] at h
  obtain ⟨h1,h2,h3⟩:=h
  have h1':=of_decide_eq_true h1
  have h2':=of_decide_eq_true h2
  obtain ⟨l,a,b,c⟩:=iX h3
  have mem:∀ {r:Sh} {j i:Nat},r[j]?=some (.inr i)→i∈gH r:=fun {r}=>by
   induction r with
   | nil=>intro j i z; simp at z
   | cons x r ih =>
    intro j i z
    cases j with
    | zero =>
     simp at z
     subst z
     unfold gH
     exact List.mem_cons_self
    | succ j =>
     have:=ih (j:=j) (i:=i) (by simpa using z)
     cases x with
     | inl _=>exact this
     | inr _=>exact List.mem_cons_of_mem _ this
  refine ⟨by rw [List.length_cons,List.length_cons,l],fun j u z=>?_,fun j i z=>?_,fun j j' i z z'=>?_⟩
  ·cases j with
   | zero=>simp at z
   | succ j=>exact a j u (by simpa using z)
  ·cases j with
   | zero=>simp at z; subst z; exact ⟨q,rfl,h1'⟩
   | succ j=>exact b j i (by simpa using z)
  ·cases j with
   | zero =>
    simp at z
    subst z
    cases j' with
    | zero=>rfl
    | succ j'=>exact absurd (mem (by simpa using z')) h2'
   | succ j =>
    cases j' with
    | zero =>
     simp at z'
     subst z'
     exact absurd (mem (by simpa using z)) h2'
    | succ j'=>rw [c j j' i (by simpa using z) (by simpa using z')]
 | [],_ :: _,h=>nomatch h
 | .inl _ :: _,[],h=>nomatch h
 | .inr _ :: _,[],h=>nomatch h
theorem lH:∀ (as:List (D ⊕ Nat)) (outs en:En),(wb as outs en).length=en.length
 | [],_,_=>by unfold wb; rfl
 | .inl _ :: as,[],_=>by unfold wb; rfl
 | .inr _ :: as,[],_=>by unfold wb; rfl
 | .inl _ :: as,o :: outs,en=>by unfold wb; exact lH as outs en
 | .inr i :: as,o :: outs,en=>by unfold wb; rw [lH as outs _,List.length_set]
theorem iH:∀ (as:List (D ⊕ Nat)) (outs en:En) (i:Nat),(∀ j:Nat,as[j]?≠some (.inr i))→(wb as outs en)[i]?=en[i]?
 | [],_,_,_,_=>by unfold wb; rfl
 | .inl _ :: as,[],_,_,_=>by unfold wb; rfl
 | .inr _ :: as,[],_,_,_=>by unfold wb; rfl
 | .inl _ :: as,o :: outs,en,i,h=>by unfold wb; exact iH as outs en i fun j=>h (j+1)
 | .inr k :: as,o :: outs,en,i,h=>by
  unfold wb
  rw [iH as outs _ i fun j=>h (j+1),List.getElem?_set_ne]
  intro e
  subst e
  exact h 0 rfl
theorem nO:∀ (as:List (D ⊕ Nat)) (outs en:En) (i j:Nat),as[j]?=some (.inr i)→(∀ j':Nat,as[j']?=some (.inr i)→j'=j)→outs.length=as.length→i < en.length→(wb as outs en)[i]?=outs[j]?
 | [],_,_,_,_,h,_,_,_=>by simp at h
 | .inl _ :: as,[],_,_,_,_,_,h,_=>by simp at h
 | .inr _ :: as,[],_,_,_,_,_,h,_=>by simp at h
 | .inl _ :: as,o :: outs,en,i,j,h,u,l,b=>by
  unfold wb
  cases j with
  | zero=>simp at h
  | succ j=>exact nO as outs en i j (by simpa using h) (fun j' z=>by have:=u (j'+1) (by simpa using z); omega) (by simpa using l) b
 | .inr k :: as,o :: outs,en,i,j,h,u,l,b=>by
  unfold wb
  cases j with
  | zero =>
   have e:k=i:=by simpa using h
   subst e
   rw [iH as outs _ k fun j' z=>by have:=u (j'+1) (by simpa using z); omega]
   rw [List.getElem?_set_self b]
   rfl
  | succ j=>exact nO as outs _ i j (by simpa using h) (fun j' z=>by have:=u (j'+1) (by simpa using z); omega) (by simpa using l) (by rw [List.length_set]; exact b)
end
end L2
namespace L2
open PySem PySem.Spec PyProof.Rows
section
variable {K:PySem.W.Frag} {p p1 p2:Bool} {ds ds0 ds1 ds2 ds' dps:List Nat} {Ox Ox' O O':AS} {H H':Hp} {σ:St} {en en' en1 en2:En} {R R':Nat→AS} {d d' d1 d2 dr:Nat} {t t1 t2:D} {Q:VK} {f f1 f2:ME} {fa:MA} {sh:Sh} {QA:List V→Hp→Prop} {i:Nat}
theorem OwA.shl:∀ {as:List (D ⊕ Nat)} {sh:Sh} {vs:List V} {F:AS},OwA K O H σ as sh vs F→sh.length=as.length
 | [],_,_,_,h=>by rw [h.1]; rfl
 | .inl t :: as,_,_,_,h=>by
  obtain ⟨v,r,d,dr,F1,F2,e1,e2,s1,s2,s3,h1,h2⟩:=h
  rw [e2,List.length_cons,List.length_cons,h2.shl]
 | .inr i :: as,_,_,_,h=>by
  obtain ⟨v,r,dr,e1,e2,e3,h2⟩:=h
  rw [e2,List.length_cons,List.length_cons,h2.shl]
theorem jW:∀ {sh:Sh},gK sh=true→∀ (j i:Nat),sh[j]?≠some (.inr i)
 | [],_,j,i,z=>by simp at z
 | .inl _ :: r,h,j,i,z=>by
  cases j with
  | zero=>simp at z
  | succ j=>exact jW (sh:=r) h j i (by simpa using z)
 | .inr _ :: r,h,_,_,_=>nomatch h
theorem Dk {E:XK} {F:List D→Option (D × En)} (hc:eY ds1 sh dps=true) (h:tF K (p && gK sh) ds ds1 dr (ax F fa) σ H Q):nR (spF K dps dr F) [] E (tFA K p ds ds1 sh fa) σ H Q:=by
 obtain ⟨Ox,en,R,t,en',e,hf,k⟩:=h
 unfold ax at hf
 obtain ⟨⟨as,en1⟩,h1,hf⟩:=Option.bind_eq_some_iff.mp hf
 obtain ⟨ts,h2,hf⟩:=Option.bind_eq_some_iff.mp hf
 obtain ⟨⟨r,outs⟩,h3,hf⟩:=Option.map_eq_some_iff.mp hf
 cases hf
 refine ⟨Ox,en,R,as,en1,e,h1,fun vs H1 R1 F0 P o=>?_⟩
 obtain ⟨cl,c1,c2,c3⟩:=iX hc
 obtain ⟨Rp,a1,a2,a3,a4⟩:=o.parts
 obtain ⟨tl,tg⟩:=jP h2
 have ol:=o.len
 have asl:∀ (j i:Nat),as[j]?=some (.inr i)→sh[j]?=some (.inr i):=fun j i z=>(a2 j i z).choose_spec.2.1
 have asr:∀ (j i:Nat),sh[j]?=some (.inr i)→as[j]?=some (.inr i):=fun j i z=>by
  cases q:as[j]? with
  | none =>
   have e1:as.length≤j:=List.getElem?_eq_none_iff.mp q
   have e2:j < sh.length:=(List.getElem?_eq_some_iff.mp z).1
   have:=o.shl
   omega
  | some x =>
   cases x with
   | inl t =>
    obtain ⟨_,_,_,e2,_⟩:=a1 j t q
    rw [z] at e2; cases e2
   | inr i' =>
    have:=asl j i' q
    rw [z] at this
    cases this
    rfl
 let Rq:Nat→AS:=fun j=>match sh[j]? with | some (.inr i)=>R1 i | _=>Rp j
 have rq1:∀ j i:Nat,sh[j]?=some (.inr i)→Rq j=R1 i:=fun j i z=>by show (match sh[j]? with | some (.inr i)=>R1 i | _=>Rp j)=R1 i; rw [z]
 have rq2:∀ j:Nat,(∀ i:Nat,sh[j]?≠some (.inr i))→Rq j=Rp j:=fun j z=>by
  show (match sh[j]? with | some (.inr i)=>R1 i | _=>Rp j)=Rp j
  split
  ·next i q=>exact absurd q (z i)
  ·rfl
 have rqc:∀ (j:Nat) a,Rq j a→(∃ i,sh[j]?=some (.inr i)∧R1 i a)∨Rp j a:=fun j a z=>by
  by_cases q:∃ i,sh[j]?=some (.inr i)
  ·obtain ⟨i,q⟩:=q
   rw [rq1 j i q] at z
   exact .inl ⟨i,q,z⟩
  ·rw [rq2 j fun i z=>q ⟨i,z⟩] at z
   exact .inr z
 let Oxp:AS:=fun a=>Ox a∨∃ i,R1 i a∧∀ j:Nat,sh[j]?≠some (.inr i)
 have sub:∀ a,Own Rq Oxp a→Own R1 (U F0 Ox) a:=fun a z=>by
  rcases z with ⟨j,z⟩ | z | ⟨i,z,_⟩
  ·rcases rqc j a z with ⟨i,_,z⟩ | z
   ·exact .inl ⟨i,z⟩
   ·exact .inr (.inl (a3 j a z))
  ·exact .inr (.inr z)
  ·exact .inl ⟨i,z⟩
 have ec:EnvOk K dps Oxp H1 (vs.map some) (ts.map some) Rq:=by
  refine ⟨fun j u hu=>?_,fun j j' a z z'=>?_,fun j a z z2=>?_,fun a z=>P.env.dom a (sub a z),by rw [List.length_map,List.length_map,tl,ol],?_⟩
  ·rw [List.getElem?_map] at hu
   obtain ⟨u',hu,eu⟩:=Option.map_eq_some_iff.mp hu
   cases eu
   rcases tg j u hu with q | ⟨i,q,qe⟩
   ·obtain ⟨v,d,b1,b2,b3⟩:=a1 j u q
    refine ⟨v,d,by rw [List.getElem?_map,b1]; rfl,c1 j d b2,?_⟩
    rw [rq2 j fun i z=>by rw [b2] at z; cases z]
    exact Ow.grow sub u (fun _ z=>z) b3
   ·obtain ⟨v,b1,b2,b3⟩:=a2 j i q
    obtain ⟨v',d,g1,g2,g3⟩:=P.env.at_ i u qe
    rw [b3] at g1
    cases g1
    obtain ⟨qd,q1,q2⟩:=c2 j i b2
    rw [g2] at q2
    cases q2
    refine ⟨v,d,by rw [List.getElem?_map,b1]; rfl,q1,?_⟩
    rw [rq1 j i b2]
    exact Ow.grow sub u (fun _ z=>z) g3
  ·rcases rqc j a z with ⟨i,q,z⟩ | z <;> rcases rqc j' a z' with ⟨i',q',z'⟩ | z'
   ·have:=P.env.dj i i' a z z'
    subst this
    exact c3 j j' i q q'
   ·exact absurd (.inl (a3 j' a z')) (P.env.dx i a z)
   ·exact absurd (.inl (a3 j a z)) (P.env.dx i' a z')
   ·exact a4 j j' a z z'
  ·rcases rqc j a z with ⟨i,q,z⟩ | z
   ·rcases z2 with z2 | ⟨i',z2,n⟩
    ·exact P.env.dx i a z (.inr z2)
    ·have:=P.env.dj i i' a z z2
     subst this
     exact n j q
   ·rcases z2 with z2 | ⟨i',z2,n⟩
    ·exact P.fx a (a3 j a z) z2
    ·exact P.env.dx i' a z2 (.inl (a3 j a z))
  ·have:=o.shl
   rw [List.length_map]
   omega
 rw [List.append_nil]
 refine ⟨Oxp,ts,Rq,r,outs,ec,h3,fun v H2 R2 Fr Pc oc=>?_⟩
 have outl:outs.length=as.length:=by rw [Pc.env.l1,List.length_map]; exact ol
 classical
 let R3:Nat→AS:=fun i=>if q:∃ j:Nat,sh[j]?=some (.inr i) then R2 q.choose else R1 i
 have r31:∀ (i j:Nat),sh[j]?=some (.inr i)→R3 i=R2 j:=fun i j z=>by
  have q:∃ j:Nat,sh[j]?=some (.inr i):=⟨j,z⟩
  have:q.choose=j:=c3 _ _ i q.choose_spec z
  show (if q:∃ j:Nat,sh[j]?=some (.inr i) then R2 q.choose else R1 i)=R2 j
  rw [dif_pos q,this]
 have r32:∀ i:Nat,(∀ j:Nat,sh[j]?≠some (.inr i))→R3 i=R1 i:=fun i z=>by
  show (if q:∃ j:Nat,sh[j]?=some (.inr i) then R2 q.choose else R1 i)=R1 i
  rw [dif_neg fun ⟨j,q⟩=>z j q]
 have r3c:∀ (i:Nat) a,R3 i a→(∃ j:Nat,sh[j]?=some (.inr i)∧R2 j a)∨((∀ j:Nat,sh[j]?≠some (.inr i))∧R1 i a):=fun i a z=>by
  by_cases q:∃ j:Nat,sh[j]?=some (.inr i)
  ·obtain ⟨j,q⟩:=q
   rw [r31 i j q] at z
   exact .inl ⟨j,q,z⟩
  ·rw [r32 i fun j z=>q ⟨j,z⟩] at z
   exact .inr ⟨fun j z=>q ⟨j,z⟩,z⟩
 have sub3:∀ a,Own R3 (U Fr Ox) a→Own R2 (U Fr Oxp) a:=fun a z=>by
  rcases z with ⟨i,z⟩ | z | z
  ·rcases r3c i a z with ⟨j,_,z⟩ | ⟨n,z⟩
   ·exact .inl ⟨j,z⟩
   ·exact .inr (.inr (.inr ⟨i,z,n⟩))
  ·exact .inr (.inl z)
  ·exact .inr (.inr (.inl z))
 have back:∀ a,(Fr a∨∃ j,R2 j a)→Own R1 (U F0 Ox) a∨H1 a=none:=fun a z=>by
  rcases Pc.own a z with ⟨j,z⟩ | z
  ·exact .inl (sub a (.inl ⟨j,z⟩))
  ·exact .inr z
 have back2:∀ a,(Fr a∨∃ j,R2 j a)→(F0 a∨∃ i,R1 i a)∨H1 a=none:=fun a z=>by
  rcases Pc.own a z with ⟨j,z⟩ | z
  ·rcases rqc j a z with ⟨i,_,z⟩ | z
   ·exact .inl (.inr ⟨i,z⟩)
   ·exact .inl (.inl (a3 j a z))
  ·exact .inr z
 have n1:∀ a,H1 a=none→H a=none:=fun a z=>by
  cases q:H a with
  | none=>rfl
  | some o =>
   obtain ⟨o',q'⟩:=P.dom a o q
   rw [z] at q'
   cases q'
 have rqsub:∀ j a,Rq j a→Own R1 (U F0 Ox) a:=fun j a z=>sub a (.inl ⟨j,z⟩)
 have env3:EnvOk K ds1 (U Fr Ox) H2 σ (wb as outs en1) R3:=by
  refine ⟨fun i u hu=>?_,fun i i' a z z'=>?_,fun i a z z2=>?_,fun a z=>Pc.env.dom a (sub3 a z),by rw [lH]; exact P.env.l1,P.env.l2⟩
  ·by_cases q:∃ j:Nat,as[j]?=some (.inr i)
   ·obtain ⟨j,q⟩:=q
    obtain ⟨v,b1,b2,b3⟩:=a2 j i q
    have hil:i < en1.length:=by rw [P.env.l1]; exact (List.getElem?_eq_some_iff.mp b3).1
    rw [nO as outs en1 i j q (fun j' z=>c3 j' j i (asl j' i z) b2) outl hil] at hu
    obtain ⟨v',d,g1,g2,g3⟩:=Pc.env.at_ j u hu
    rw [List.getElem?_map,b1] at g1
    cases g1
    obtain ⟨qd,q1,q2⟩:=c2 j i b2
    rw [g2] at q1
    cases q1
    refine ⟨v,d,b3,q2,?_⟩
    rw [r31 i j b2]
    exact Ow.grow sub3 u (fun _ z=>z) g3
   ·rw [iH as outs en1 i fun j z=>q ⟨j,z⟩] at hu
    have ns:∀ j:Nat,sh[j]?≠some (.inr i):=fun j z=>q ⟨j,asr j i z⟩
    obtain ⟨v,d,g1,g2,g3⟩:=P.env.at_ i u hu
    refine ⟨v,d,g1,g2,?_⟩
    rw [r32 i ns]
    refine Ow.mv (G:=R1 i) ⟨fun a o q z=>Pc.keep a o q fun j zj=>?_,fun a z=>?_⟩ u (fun _ z=>z) g3
    ·rcases z with z | z
     ·exact z (rqsub j a zj)
     ·rcases rqc j a zj with ⟨i',q',z'⟩ | z'
      ·have:=P.env.dj i i' a z z'
       subst this
       exact ns j q'
      ·exact P.env.dx i a z (.inl (a3 j a z'))
    ·rcases z with ⟨i',z⟩ | z | z
     ·rcases r3c i' a z with ⟨j,_,z⟩ | ⟨n,z⟩
      ·exact back a (.inr ⟨j,z⟩)
      ·exact .inl (.inl ⟨i',z⟩)
     ·exact back a (.inl z)
     ·exact .inl (.inr (.inr z))
  ·rcases r3c i a z with ⟨j,q,z⟩ | ⟨n,z⟩ <;> rcases r3c i' a z' with ⟨j',q',z'⟩ | ⟨n',z'⟩
   ·have:=Pc.env.dj j j' a z z'
    subst this
    rw [q] at q'
    cases q'
    rfl
   ·exact absurd (.inr (.inr ⟨i',z',n'⟩)) (Pc.env.dx j a z)
   ·exact absurd (.inr (.inr ⟨i,z,n⟩)) (Pc.env.dx j' a z')
   ·exact P.env.dj i i' a z z'
  ·rcases r3c i a z with ⟨j,q,z⟩ | ⟨n,z⟩
   ·exact Pc.env.dx j a z (z2.imp id .inl)
   ·rcases z2 with z2 | z2
    ·exact Pc.fx a z2 (.inr ⟨i,z,n⟩)
    ·exact P.env.dx i a z (.inr z2)
 refine k v H2 R3 Fr ⟨env3,fun a z z2=>Pc.fx a z (.inl z2),fun a o q n=>?_,fun a z=>?_,fun a o q=>?_,fun hp=>?_⟩ (Ow.grow sub3 r (fun _ z=>z) oc)
 ·refine Pc.keep a o (P.keep a o q n) fun j z=>?_
  have nn:∀ i,¬ R1 i a:=fun i z=>by
   rcases P.own a (.inr ⟨i,z⟩) with ⟨i',z⟩ | z
   ·exact n i' z
   ·rw [q] at z; cases z
  rcases rqc j a z with ⟨i,_,z⟩ | z
  ·exact nn i z
  ·rcases P.own a (.inl (a3 j a z)) with ⟨i',z⟩ | z
   ·exact n i' z
   ·rw [q] at z; cases z
 ·have:(F0 a∨∃ i,R1 i a)∨H1 a=none:=by
   rcases z with z | ⟨i,z⟩
   ·exact back2 a (.inl z)
   ·rcases r3c i a z with ⟨j,_,z⟩ | ⟨n,z⟩
    ·exact back2 a (.inr ⟨j,z⟩)
    ·exact .inl (.inr ⟨i,z⟩)
  rcases this with z | z
  ·exact P.own a z
  ·exact .inr (n1 a z)
 ·obtain ⟨o',q'⟩:=P.dom a o q
  exact Pc.dom a o' q'
 ·obtain ⟨hp1,hp2⟩:=(Bool.and_eq_true _ _ ▸ hp:p=true∧gK sh=true)
  obtain ⟨b1,b2,b3⟩:=P.pure hp1
  have ns:=jW hp2
  refine ⟨?_,?_,fun a o q=>?_⟩
  ·show wb as outs en1=en
   rw [← b1]
   refine List.ext_getElem? fun i=>?_
   exact iH as outs en1 i fun j z=>ns j i (asl j i z)
  ·rw [← b2]
   funext i
   exact r32 i fun j=>ns j i
  ·refine Pc.keep a o (b3 a o q) fun j z=>?_
   rcases rqc j a z with ⟨i,z,_⟩ | z
   ·exact ns j i z
   ·have zf:=a3 j a z
    rcases P.own a (.inl zf) with ⟨i,z2⟩ | z2
    ·rw [← b2] at z2
     exact P.env.dx i a z2 (.inl zf)
    ·rw [q] at z2; cases z2
end
end L2
namespace L2
open PySem PySem.Spec PyProof.Rows
inductive Fl where
 | nx (en:En) | rt (t:D) (en:En) | ct (en:En)
abbrev MS:=En→Option Fl
structure Jd where
 lk:List Nat
 dsr:List Nat
 dr:Nat
 dsl:List Nat
structure PostS (K:PySem.W.Frag) (lk:List Nat) (ds':List Nat) (Ox:AS) (σ:St) (H:Hp) (R:Nat→AS) (σ':St) (en':En) (H':Hp) (R':Nat→AS) (F:AS):Prop where
 env:EnvOk K ds' (U F Ox) H' σ' en' R'
 fx:∀ a,F a→¬ Ox a
 keep:∀ a o,H a=some o→(∀ i,¬ R i a)→H' a=some o
 own:∀ a,(F a∨∃ i,R' i a)→(∃ i,R i a)∨H a=none
 dom:∀ a o,H a=some o→∃ o',H' a=some o'
 lk:∀ j∈lk,σ'[j]?=σ[j]?
def tFS (K:PySem.W.Frag) (J:Jd) (ds ds':List Nat) (f:MS):TS:=fun D σ H =>
 ∃ Ox en R fl,EnvOk K ds Ox H σ en R∧f en=some fl∧match fl with
  | .nx en'=>∀ σ' H' R',PostS K J.lk ds' Ox σ H R σ' en' H' R' NoA→D.nx σ' H'
  | .ct en'=>∀ σ' H' R',PostS K J.lk J.dsl Ox σ H R σ' en' H' R' NoA→D.ct σ' H'
  | .rt t en'=>∀ v σ' H' R' F,PostS K J.lk J.dsr Ox σ H R σ' en' H' R' F→Ow K (Own R' (U F Ox)) H' t J.dr v F→D.rt v H'
def ak (f g:MS):MS:=fun en=>(f en).bind fun fl=>match fl with
 | .nx en1=>g en1
 | .rt t en1=>some (.rt t en1)
 | .ct en1=>some (.ct en1)
def ar (i:Nat) (f:ME):MS:=fun en=>(f en).map fun r=>.nx (r.2.set i (some r.1))
def bQ (f:ME):MS:=fun en=>(f en).map fun r=>.nx r.2
def aQ (f:ME):MS:=fun en=>(f en).map fun r=>.rt r.1 r.2
def Ff:MS:=fun en=>some (.rt .none en)
def bD:MS:=fun en=>some (.nx en)
def Fg:MS:=fun en=>some (.ct en)
def E5:MS:=fun _=>none
def sIf (c:MT) (f g:MS):MS:=fun en=>(c en).bind fun r=>if r.1 then f r.2 else g r.2
section
variable {K:PySem.W.Frag} {p p1 p2:Bool} {J:Jd} {lk:List Nat} {ds ds0 ds1 ds2 ds':List Nat} {Ox Ox' O O':AS} {H H':Hp} {σ σ':St} {en en' en1 en2:En} {R R':Nat→AS} {d d' d1 d2 dr:Nat} {t t1 t2:D} {f f1 f2:ME} {c:MT} {m m1 m2:MS} {i:Nat} {D:Ends}
theorem PostS.refl (e:EnvOk K ds Ox H σ en R):PostS K lk ds Ox σ H R σ en H R NoA :=
 ⟨by rw [fw]; exact e,fun _ z=>z.elim,fun _ _ q _=>q,fun a z=>z.elim (fun z=>z.elim) .inl,fun a o q=>⟨o,q⟩,fun _ _=>rfl⟩
theorem PostS.env0 {F:AS} (P:PostS K lk ds' Ox σ H R σ' en' H' R' F):EnvOk K ds' Ox H' σ' en' R':=P.env.fewer fun a z=>.inr z
theorem PostS.less {F F':AS} (P:PostS K lk ds' Ox σ H R σ' en' H' R' F) (h:∀ a,F' a→F a):PostS K lk ds' Ox σ H R σ' en' H' R' F' :=
 ⟨P.env.fewer fun a z=>z.imp (h a) id,fun a z=>P.fx a (h a z),P.keep,fun a z=>P.own a (z.imp (h a) id),P.dom,P.lk⟩
theorem PostS.after {σ1 σ2:St} {H1:Hp} {R1 R2:Nat→AS} {F:AS} (P1:PostS K lk ds1 Ox σ H R σ1 en1 H1 R1 NoA) (P2:PostS K lk ds2 Ox σ1 H1 R1 σ2 en2 H' R2 F):PostS K lk ds2 Ox σ H R σ2 en2 H' R2 F:=by
 have n1:∀ a,H1 a=none→H a=none:=fun a z=>by
  cases q:H a with
  | none=>rfl
  | some o =>
   obtain ⟨o',q'⟩:=P1.dom a o q
   rw [z] at q'
   cases q'
 refine ⟨P2.env,P2.fx,fun a o q n=>?_,fun a z=>?_,fun a o q=>?_,fun j hj=>(P2.lk j hj).trans (P1.lk j hj)⟩
 ·refine P2.keep a o (P1.keep a o q n) fun i z=>?_
  rcases P1.own a (.inr ⟨i,z⟩) with ⟨j,z⟩ | z
  ·exact n j z
  ·rw [q] at z; cases z
 ·rcases P2.own a z with z | z
  ·exact P1.own a (.inr z)
  ·exact .inr (n1 a z)
 ·obtain ⟨o',q'⟩:=P1.dom a o q
  exact P2.dom a o' q'
theorem Post.s {F:AS} (P:Post K p ds' Ox σ H en R en' H' R' F):PostS K lk ds' Ox σ H R σ en' H' R' F:=⟨P.env,P.fx,P.keep,P.own,P.dom,fun _ _=>rfl⟩
theorem PostS.cut {F:AS} (P:PostS K lk ds1 Ox σ H R σ' en' H' R' F) (hd:leD ds2 ds1=true):∃ R2,(∀ i a,R2 i a→R' i a)∧PostS K lk ds2 Ox σ H R σ' en' H' R2 F:=by
 obtain ⟨R2,s1,e2⟩:=P.env.cut (dg hd).1 (dg hd).2
 exact ⟨R2,s1,e2,P.fx,P.keep,fun a z=>P.own a (z.imp id fun ⟨i,z⟩=>⟨i,s1 i a z⟩),P.dom,P.lk⟩
theorem CK (h:tFS K J ds ds bD D σ H):xb D σ H:=by
 obtain ⟨Ox,en,R,fl,e,hf,k⟩:=h
 cases hf
 exact k σ H R (PostS.refl e)
theorem CI (h:tFS K J ds ds2 (ak m1 m2) D σ H):By (tFS K J ds ds1 m1) (tFS K J ds1 ds2 m2) D σ H:=by
 obtain ⟨Ox,en,R,fl,e,hf,k⟩:=h
 unfold ak at hf
 obtain ⟨fl1,h1,hf⟩:=Option.bind_eq_some_iff.mp hf
 refine ⟨Ox,en,R,fl1,e,h1,?_⟩
 cases fl1 with
 | nx en1 =>
  intro σ1 H1 R1 P1
  refine ⟨Ox,en1,R1,fl,P1.env0,hf,?_⟩
  cases fl with
  | nx en2=>exact fun σ2 H2 R2 P2=>k σ2 H2 R2 (P1.after P2)
  | ct en2=>exact fun σ2 H2 R2 P2=>k σ2 H2 R2 (P1.after P2)
  | rt t en2=>exact fun v σ2 H2 R2 F P2 o=>k v σ2 H2 R2 F (P1.after P2) o
 | ct en1=>cases hf; exact k
 | rt t en1=>cases hf; exact k
theorem CH (hd:leD ds1 ds2=true) (h:tFS K J ds ds1 m D σ H):tFS K J ds ds2 m D σ H:=by
 obtain ⟨Ox,en,R,fl,e,hf,k⟩:=h
 refine ⟨Ox,en,R,fl,e,hf,?_⟩
 cases fl with
 | nx en2 =>
  intro σ2 H2 R2 P2
  obtain ⟨R3,_,P3⟩:=P2.cut hd
  exact k σ2 H2 R3 P3
 | ct en2=>exact k
 | rt t en2=>exact k
theorem CM (h:tFS K J ds ds1 (bQ f) D σ H):xc (tF K p ds ds1 d f) D σ H:=by
 obtain ⟨Ox,en,R,fl,e,hf,k⟩:=h
 unfold bQ at hf
 obtain ⟨⟨t,en1⟩,h1,hf⟩:=Option.map_eq_some_iff.mp hf
 cases hf
 exact ⟨Ox,en,R,t,en1,e,h1,fun v H1 R1 F P o=>k σ H1 R1 (P.s.less fun _ z=>z.elim)⟩
theorem CJ (hd:leD J.dsr ds1=true) (h:tFS K J ds ds' (aQ f) D σ H):Bz (tF K p ds ds1 J.dr f) D σ H:=by
 obtain ⟨Ox,en,R,fl,e,hf,k⟩:=h
 unfold aQ at hf
 obtain ⟨⟨t,en1⟩,h1,hf⟩:=Option.map_eq_some_iff.mp hf
 cases hf
 refine ⟨Ox,en,R,t,en1,e,h1,fun v H1 R1 F P o=>?_⟩
 obtain ⟨R2,s1,P2⟩:=(P.s (lk:=J.lk)).cut hd
 exact k v σ H1 R2 F P2 (Ow.grow (fun a z=>z.imp (fun ⟨i,z⟩=>⟨i,s1 i a z⟩) id) t (fun _ z=>z) o)
theorem Ec (h:tFS K J ds ds2 (sIf c m1 m2) D σ H):BD (tFT K p ds ds1 c) (tFS K J ds1 ds2 m1) (tFS K J ds1 ds2 m2) D σ H:=by
 obtain ⟨Ox,en,R,fl,e,hf,k⟩:=h
 unfold sIf at hf
 obtain ⟨⟨b,en1⟩,h1,hf⟩:=Option.bind_eq_some_iff.mp hf
 refine ⟨Ox,en,R,b,en1,e,h1,fun H1 R1 P1=>?_⟩
 have fin:∀ m,m en1=some fl→tFS K J ds1 ds2 m D σ H1:=fun m hm=>by
  refine ⟨Ox,en1,R1,fl,P1.env0,hm,?_⟩
  cases fl with
  | nx en2=>exact fun σ2 H2 R2 P2=>k σ2 H2 R2 (P1.s.after P2)
  | ct en2=>exact fun σ2 H2 R2 P2=>k σ2 H2 R2 (P1.s.after P2)
  | rt t en2=>exact fun v σ2 H2 R2 F P2 o=>k v σ2 H2 R2 F (P1.s.after P2) o
 cases b with
 | true=>exact fin m1 hf
 | false=>exact fin m2 hf
theorem PostS.store {F:AS} {v:V} (P:Post K p ds1 Ox σ H en R en1 H' R' F) (o:Ow K (Own R' (U F Ox)) H' t d v F) (hi:i < ds1.length) (hl:i ∉ lk) :
  PostS K lk (ds1.set i d) Ox σ H R (σ.set i (some v)) (en1.set i (some t)) H' (fun j=>if j=i then F else R' j) NoA:=by
 have l1:=P.env.l1
 have l2:=P.env.l2
 have sub:∀ a,Own (fun j=>if j=i then F else R' j) Ox a→Own R' (U F Ox) a:=fun a z=>by
  rcases z with ⟨j,z⟩ | z
  ·by_cases hj:j=i
   ·rw [if_pos hj] at z; exact .inr (.inl z)
   ·rw [if_neg hj] at z; exact .inl ⟨j,z⟩
  ·exact .inr (.inr z)
 refine ⟨?_,fun _ z=>z.elim,P.keep,fun a z=>?_,P.dom,fun j hj=>?_⟩
 ·rw [fw]
  refine ⟨fun j u hu=>?_,fun j j' a z z'=>?_,fun j a z z2=>?_,fun a z=>P.env.dom a (sub a z),by rw [List.length_set,List.length_set]; exact l1,by rw [List.length_set,List.length_set]; exact l2⟩
  ·by_cases hj:j=i
   ·subst hj
    rw [List.getElem?_set_self (by omega)] at hu
    cases hu
    refine ⟨v,d,List.getElem?_set_self (by omega),List.getElem?_set_self hi,?_⟩
    rw [if_pos rfl]
    exact Ow.grow sub t (fun _ z=>z) o
   ·rw [List.getElem?_set_ne (Ne.symm hj)] at hu
    obtain ⟨v',d',g1,g2,g3⟩:=P.env.at_ j u hu
    refine ⟨v',d',by rw [List.getElem?_set_ne (Ne.symm hj)]; exact g1,by rw [List.getElem?_set_ne (Ne.symm hj)]; exact g2,?_⟩
    rw [if_neg hj]
    exact Ow.grow sub u (fun _ z=>z) g3
  ·by_cases hj:j=i <;> by_cases hj':j'=i
   ·rw [hj,hj']
   ·rw [if_pos hj] at z; rw [if_neg hj'] at z'
    exact absurd (.inl z) (P.env.dx j' a z')
   ·rw [if_neg hj] at z; rw [if_pos hj'] at z'
    exact absurd (.inl z') (P.env.dx j a z)
   ·rw [if_neg hj] at z; rw [if_neg hj'] at z'
    exact P.env.dj j j' a z z'
  ·by_cases hj:j=i
   ·rw [if_pos hj] at z
    exact P.fx a z z2
   ·rw [if_neg hj] at z
    exact P.env.dx j a z (.inr z2)
 ·rcases z with z | ⟨j,z⟩
  ·exact z.elim
  ·by_cases hj:j=i
   ·rw [if_pos hj] at z; exact P.own a (.inl z)
   ·rw [if_neg hj] at z; exact P.own a (.inr ⟨j,z⟩)
 ·rw [List.getElem?_set_ne]
  intro z
  subst z
  exact hl hj
theorem pI (hi:i < ds1.length) (hl:i ∉ J.lk) (h:tFS K J ds (ds1.set i d) (ar i f) D σ H):jz (tF K p ds ds1 d f) (j5 i) D σ H:=by
 obtain ⟨Ox,en,R,fl,e,hf,k⟩:=h
 unfold ar at hf
 obtain ⟨⟨t,en1⟩,h1,hf⟩:=Option.map_eq_some_iff.mp hf
 cases hf
 exact ⟨Ox,en,R,t,en1,e,h1,fun v H1 R1 F P o=>k _ H1 _ (PostS.store P o hi hl)⟩
abbrev MG:=PyData→En→Option En
def tFG (K:PySem.W.Frag) (lk:List Nat) (ds ds':List Nat) (g:MG):TG:=fun v σ H Q =>
 ∃ Ox en R t en',EnvOk K ds Ox H σ en R∧Ow K (Own R Ox) H t 0 v NoA∧g t en=some en'∧∀ σ' R',PostS K lk ds' Ox σ H R σ' en' H R' NoA→(∀ j∈lk,R' j=R j)→Q σ' H
def fm (K:PySem.W.Frag) (lk:List Nat) (ds ds':List Nat) (g:List PyData→En→Option En):TGs:=fun vs σ H Q =>
 ∃ Ox en R ts en',EnvOk K ds Ox H σ en R∧Ows K (Own R Ox) H ts 0 vs NoA∧g ts en=some en'∧∀ σ' R',PostS K lk ds' Ox σ H R σ' en' H R' NoA→(∀ j∈lk,R' j=R j)→Q σ' H
def gN (i:Nat):MG:=fun t en=>some (en.set i (some t))
def gs0:List PyData→En→Option En:=fun ts en=>match ts with
 | []=>some en
 | _=>none
def gsC (g:MG) (r:List PyData→En→Option En):List PyData→En→Option En:=fun ts en=>match ts with
 | t :: ts=>(g t en).bind fun en1=>r ts en1
 | []=>none
def gT (g:List PyData→En→Option En):MG:=fun t en=>match t with
 | .tuple ts=>g ts en
 | _=>none
variable {g g1:MG} {gs:List PyData→En→Option En} {v:V} {vs:List V} {QS:St→Hp→Prop}
theorem zc (hi:i < ds.length) (hl:i ∉ lk) (h:tFG K lk ds (ds.set i 0) (gN i) v σ H QS):j5 i v σ H QS:=by
 obtain ⟨Ox,en,R,t,en',e,o,hf,k⟩:=h
 cases hf
 exact k _ _ (PostS.store (p:=true) (Post.refl e) (by rw [show (fun _=>False:AS)=NoA from rfl,fw]; exact o) hi hl) fun j hj=>if_neg (fun (z:j=i)=>hl (by rw [← z]; exact hj))
theorem y9 (h:fm K lk ds ds gs0 vs σ H QS):qS vs σ H QS:=by
 obtain ⟨Ox,en,R,ts,en',e,o,hf,k⟩:=h
 cases ts with
 | nil=>cases hf; exact ⟨o,k σ R (PostS.refl e) fun _ _=>rfl⟩
 | cons t ts=>cases hf
theorem rg (h:fm K lk ds ds2 (gsC g gs) vs σ H QS):oC (tFG K lk ds ds1 g) (fm K lk ds1 ds2 gs) vs σ H QS:=by
 obtain ⟨Ox,en,R,ts,en',e,o,hf,k⟩:=h
 cases ts with
 | nil=>cases hf
 | cons t ts =>
  obtain ⟨en1,h1,h2⟩:=Option.bind_eq_some_iff.mp hf
  obtain ⟨v,r,F1,F2,e1,s1,s2,s3,o1,o2⟩:=o
  refine ⟨v,r,e1,Ox,en,R,t,en1,e,Ow.any0 t o1,h1,fun σ1 R1 P1 r1=>?_⟩
  refine ⟨Ox,en1,R1,ts,en',P1.env0,Ows.any0 ts (Ows.mv (G:=NoA) ⟨fun a o q _=>q,fun a z=>?_⟩ ts (F:=NoA) (fun _ z=>z) (Ows.any0 ts o2)),h2,fun σ2 R2 P2 r2=>k σ2 R2 (P1.after P2) fun j hj=>(r2 j hj).trans (r1 j hj)⟩
  rcases z with z | z
  ·exact (P1.own a (.inr z)).imp .inl id
  ·exact .inl (.inr z)
theorem CZ {n:Nat} (hn:∀ ts en,(∃ en',gs ts en=some en')→ts.length=n) (h:tFG K lk ds ds1 (gT gs) v σ H QS):qR K n (fm K lk ds ds1 gs) v σ H QS:=by
 obtain ⟨Ox,en,R,t,en',e,o,hf,k⟩:=h
 cases t with
 | tuple ts =>
  have hf':gs ts en=some en':=hf
  obtain ⟨a,vs,e1,⟨_,h1,h2⟩ | ⟨z,_⟩⟩:=o
  ·refine ⟨a,vs,e1,h1.sq,?_,Ox,en,R,ts,en',e,h2,hf',k⟩
   rw [← hn ts en ⟨en',hf'⟩]
   have:∀ {ts:List PyData} {vs:List V} {F:AS},Ows K (Own R Ox) H ts 0 vs F→vs.length=ts.length:=fun {ts}=>by
    induction ts with
    | nil=>intro vs F h; rw [show vs=[] from h]; rfl
    | cons t ts ih =>
     intro vs F h
     obtain ⟨v,r,F1,F2,e,h1,h2,h3,h4,h5⟩:=h
     rw [e,List.length_cons,List.length_cons,ih h5]
   exact this h2
  ·exact absurd rfl z
 | _=>cases hf
abbrev MI:=En→Option (List PyData × En)
def kJ (K:PySem.W.Frag) (O:AS) (H0:Hp) (J:It) (ts:List PyData):Prop :=
 ∀ (i:Nat) (H:Hp) (O1:AS),(∀ a o,H0 a=some o→¬ O a→H a=some o)→(∀ a,O1 a→O a∨H0 a=none)→(∀ a,O1 a→∃ o,H a=some o) →
  (∀ t,ts[i]?=some t→J.go i H∧∀ x H1,J.yld i H x H1→(∀ a o,H a=some o→H1 a=some o)∧Ow K O1 H1 t 0 x NoA)∧(ts.length=i→J.stop i H)
def tFI (K:PySem.W.Frag) (p:Bool) (ds ds':List Nat) (f:MI):TI:=fun σ H RJ =>
 ∃ Ox en R ts en',EnvOk K ds Ox H σ en R∧f en=some (ts,en')∧∀ J H' R',Post K p ds' Ox σ H en R en' H' R' NoA→kJ K (Own R' Ox) H' J ts→RJ J H'
def bS (g:MG) (b:MS):List PyData→En→Option Fl
 | [],en=>some (.nx en)
 | t :: ts,en=>(g t en).bind fun en1=>(b en1).bind fun fl=>match fl with
  | .nx en2=>bS g b ts en2
  | .ct en2=>bS g b ts en2
  | .rt r en2=>some (.rt r en2)
def cR (fi:MI) (g:MG) (b:MS):MS:=fun en=>(fi en).bind fun r=>bS g b r.1 r.2
theorem CL {fi:MI} (h:tFS K J ds ds1 (cR fi g m) D σ H):BE (tFI K p ds ds1 fi) (tFG K J.lk ds1 ds2 g) (tFS K { J with dsl:=ds1 } ds2 ds1 m) D σ H:=by
 obtain ⟨Ox,en,R,fl,e,hf,k⟩:=h
 unfold cR at hf
 obtain ⟨⟨ts,en1⟩,h1,hf⟩:=Option.bind_eq_some_iff.mp hf
 refine ⟨Ox,en,R,ts,en1,e,h1,fun Jt H1 R1 P1 wk=>?_⟩
 refine ⟨fun i n σ' H'=>∃ en' R',n=ts.length - i∧i≤ts.length∧PostS K J.lk ds1 Ox σ H1 R1 σ' en' H' R' NoA∧bS g m (ts.drop i) en'=some fl,⟨_,en1,R1,rfl,Nat.zero_le _,PostS.refl P1.env0,hf⟩,?_⟩
 rintro i n σ2 H2 ⟨en2,R2,rfl,hi,P2,hr⟩
 obtain ⟨w1,w2⟩:=wk i H2 (Own R2 Ox) (fun a o q z=>P2.keep a o q fun j zj=>z (.inl ⟨j,zj⟩)) (fun a z=>by
  rcases z with z | z
  ·exact (P2.own a (.inr z)).imp .inl id
  ·exact .inl (.inr z)) fun a z=>P2.env0.dom a z
 by_cases hlt:i < ts.length
 ·obtain ⟨go,yl⟩:=w1 ts[i] (List.getElem?_eq_getElem hlt)
  have hd:ts.drop i=ts[i] :: ts.drop (i+1):=List.drop_eq_getElem_cons hlt
  rw [hd] at hr
  obtain ⟨en3,h3,hr⟩:=Option.bind_eq_some_iff.mp hr
  obtain ⟨fl2,h4,hr⟩:=Option.bind_eq_some_iff.mp hr
  refine .inr ⟨go,fun σ' H'=>∃ en' R',PostS K J.lk ds1 Ox σ H1 R1 σ' en' H' R' NoA∧bS g m (ts.drop (i+1)) en'=some fl,fun σ' H' ⟨en',R',P',h'⟩=>⟨ts.length - (i+1),by omega,en',R',rfl,hlt,P',h'⟩,fun x H3 y=>?_⟩
  obtain ⟨gr,ox⟩:=yl x H3 y
  have P3:Post K true ds1 Ox σ2 H2 en2 R2 en2 H3 R2 NoA:=Post.new P2.env0 gr fun _ z=>z.elim
  refine ⟨Ox,en2,R2,ts[i],en3,P3.env0,ox,h3,fun σ4 R4 P4 _=>?_⟩
  have P4':=(P2.after P3.s).after P4
  refine ⟨Ox,en3,R4,fl2,P4.env0,h4,?_⟩
  cases fl2 with
  | nx en5=>exact fun σ5 H5 R5 P5=>⟨en5,R5,P4'.after P5,hr⟩
  | ct en5=>exact fun σ5 H5 R5 P5=>⟨en5,R5,P4'.after P5,hr⟩
  | rt t en5 =>
   cases hr
   exact fun v σ5 H5 R5 F P5 o=>k v σ5 H5 R5 F (P1.s.after (P4'.after P5)) o
 ·have e2:i=ts.length:=by omega
  subst e2
  rw [List.drop_length] at hr
  cases hr
  exact .inl ⟨w2 rfl,k σ2 H2 R2 (P1.s.after P2)⟩
def whN (c:MT) (b:MS):Nat→En→Option Fl
 | 0,_=>none
 | n+1,en=>(c en).bind fun r=>if r.1 then (b r.2).bind fun fl=>match fl with
   | .nx en2=>whN c b n en2
   | .ct en2=>whN c b n en2
   | .rt t en2=>some (.rt t en2)
  else some (.nx r.2)
open Classical in
noncomputable def cw (c:MT) (b:MS):MS:=fun en=>if h:∃ n fl,whN c b n en=some fl then some h.choose_spec.choose else none
theorem gm {b:MS} {fl:Fl} (h:cw c b en=some fl):∃ n,whN c b n en=some fl:=by
 unfold cw at h
 split at h
 ·next q =>
  cases h
  exact ⟨q.choose,q.choose_spec.choose_spec⟩
 ·cases h
theorem qU (h:tFS K J ds ds1 (cw c m) D σ H):oW (tFT K p ds ds1 c) (tFS K { J with dsl:=ds } ds1 ds m) D σ H:=by
 obtain ⟨Ox,en,R,fl,e,hf,k⟩:=h
 obtain ⟨n0,hn⟩:=gm hf
 refine ⟨fun n σ' H'=>∃ en' R',PostS K J.lk ds Ox σ H R σ' en' H' R' NoA∧whN c m n en'=some fl,⟨n0,en,R,PostS.refl e,hn⟩,?_⟩
 rintro n σ2 H2 ⟨en2,R2,P2,hr⟩
 cases n with
 | zero=>cases hr
 | succ n =>
  unfold whN at hr
  obtain ⟨⟨b,en3⟩,h3,hr⟩:=Option.bind_eq_some_iff.mp hr
  refine ⟨Ox,en2,R2,b,en3,P2.env0,h3,fun H3 R3 P3=>?_⟩
  cases b with
  | false =>
   cases hr
   rw [if_neg Bool.false_ne_true]
   exact k σ2 H3 R3 (P2.after P3.s)
  | true =>
   rw [if_pos rfl] at hr ⊢
   obtain ⟨fl2,h4,hr⟩:=Option.bind_eq_some_iff.mp hr
   refine ⟨fun σ' H'=>∃ en' R',PostS K J.lk ds Ox σ H R σ' en' H' R' NoA∧whN c m n en'=some fl,fun σ' H' q=>⟨n,Nat.lt_succ_self _,q⟩,Ox,en3,R3,fl2,P3.env0,h4,?_⟩
   have P3':=P2.after (P3.s (lk:=J.lk))
   cases fl2 with
   | nx en5=>exact fun σ5 H5 R5 P5=>⟨en5,R5,P3'.after P5,hr⟩
   | ct en5=>exact fun σ5 H5 R5 P5=>⟨en5,R5,P3'.after P5,hr⟩
   | rt t en5 =>
    cases hr
    exact fun v σ5 H5 R5 F P5 o=>k v σ5 H5 R5 F (P3'.after P5) o
end
end L2
namespace L2
open PySem PySem.Spec PyProof.Rows
def lcF (g:MG) (c:MT) (f:ME):List D→List D→En→Option (List D × En)
 | [],acc,en=>some (acc,en)
 | t :: ts,acc,en=>(g t en).bind fun en1=>(c en1).bind fun r=>if r.1 then (f r.2).bind fun q=>if acc.length < sizeLine then lcF g c f ts (acc++[q.1]) q.2 else none else lcF g c f ts acc r.2
def cq (js:List (Option Nat)) (en:En):En:=js.map fun j=>match j with
 | some j=>(en[j]?).join
 | none=>none
def wbB:List (Option Nat)→En→En→En
 | some j :: js,o :: r,en=>wbB js r (en.set j o)
 | none :: js,_ :: r,en=>wbB js r en
 | _,_,en=>en
def eLC (q:Bool) (fi:MI) (g:MG) (c:MT) (f:ME) (js:List (Option Nat)):ME:=fun en=>(fi en).bind fun r=>(lcF g c f r.1 [] (cq js r.2)).map fun z=>(.list z.1,if q then r.2 else wbB js z.2 r.2)
def gz (ds:List Nat):List (Option Nat)→List Nat→Bool
 | [],[]=>true
 | some j :: js,d :: r=>decide (ds[j]?=some d) && (decide (some j ∉ js) && gz ds js r)
 | none :: js,_ :: r=>gz ds js r
 | _,_=>false
section
variable {K:PySem.W.Frag} {p p1 p2 q:Bool} {lk:List Nat} {ds ds0 ds1 ds2 ds' dsi:List Nat} {Ox Ox' O O':AS} {H H':Hp} {σ σ':St} {en en' en1 en2:En} {R R':Nat→AS} {d d' d1 d2 dr:Nat} {t t1 t2:D} {Q:VK} {f f1 f2:ME} {c:MT} {g:MG} {fi:MI} {i:Nat} {js:List (Option Nat)}
theorem jO:∀ {js:List (Option Nat)} {dsi:List Nat},gz ds js dsi=true→dsi.length=js.length∧(∀ (k j:Nat),js[k]?=some (some j)→∃ d,dsi[k]?=some d∧ds[j]?=some d)∧(∀ (k k' j:Nat),js[k]?=some (some j)→js[k']?=some (some j)→k=k')
 | [],[],_=>⟨rfl,fun k j z=>by simp at z,fun k k' j z=>by simp at z⟩
 | some j0 :: js,d :: r,h=>by
  unfold gz at h
  rw [Bool.and_eq_true,Bool.and_eq_true] at h
  obtain ⟨h1,h2,h3⟩:=h
  obtain ⟨a,b,c⟩:=jO h3
  have n:=of_decide_eq_true h2
  refine ⟨by rw [List.length_cons,List.length_cons,a],fun k j z=>?_,fun k k' j z z'=>?_⟩
  ·cases k with
   | zero=>simp at z; subst z; exact ⟨d,rfl,of_decide_eq_true h1⟩
   | succ k=>exact b k j (by simpa using z)
  ·cases k with
   | zero =>
    simp at z
    subst z
    cases k' with
    | zero=>rfl
    | succ k'=>exact absurd (List.mem_of_getElem? (by simpa using z':js[k']?=some (some j0))) n
   | succ k =>
    cases k' with
    | zero =>
     simp at z'
     subst z'
     exact absurd (List.mem_of_getElem? (by simpa using z:js[k]?=some (some j0))) n
    | succ k'=>rw [c k k' j (by simpa using z) (by simpa using z')]
 | none :: js,d :: r,h=>by
  unfold gz at h
  obtain ⟨a,b,c⟩:=jO h
  refine ⟨by rw [List.length_cons,List.length_cons,a],fun k j z=>?_,fun k k' j z z'=>?_⟩
  ·cases k with
   | zero=>simp at z
   | succ k=>exact b k j (by simpa using z)
  ·cases k with
   | zero=>simp at z
   | succ k =>
    cases k' with
    | zero=>simp at z'
    | succ k'=>rw [c k k' j (by simpa using z) (by simpa using z')]
 | [],_ :: _,h=>nomatch h
 | some _ :: _,[],h=>nomatch h
 | none :: _,[],h=>nomatch h
theorem kt:∀ (js:List (Option Nat)) (r en:En),(wbB js r en).length=en.length
 | [],_,_=>by unfold wbB; rfl
 | some _ :: _,[],_=>by unfold wbB; rfl
 | none :: _,[],_=>by unfold wbB; rfl
 | some j :: js,o :: r,en=>by unfold wbB; rw [kt js r _,List.length_set]
 | none :: js,o :: r,en=>by unfold wbB; exact kt js r _
theorem jc:∀ (js:List (Option Nat)) (r en:En) (i:Nat),(∀ k:Nat,js[k]?≠some (some i))→(wbB js r en)[i]?=en[i]?
 | [],_,_,_,_=>by unfold wbB; rfl
 | some _ :: _,[],_,_,_=>by unfold wbB; rfl
 | none :: _,[],_,_,_=>by unfold wbB; rfl
 | none :: js,o :: r,en,i,h=>by unfold wbB; exact jc js r en i fun j=>h (j+1)
 | some k :: js,o :: r,en,i,h=>by
  unfold wbB
  rw [jc js r _ i fun j=>h (j+1),List.getElem?_set_ne]
  intro e
  subst e
  exact h 0 rfl
theorem lJ:∀ (js:List (Option Nat)) (r en:En) (i k:Nat),js[k]?=some (some i)→(∀ k':Nat,js[k']?=some (some i)→k'=k)→r.length=js.length→i < en.length→(wbB js r en)[i]?=r[k]?
 | [],_,_,_,_,h,_,_,_=>by simp at h
 | some _ :: js,[],_,_,_,_,_,h,_=>by simp at h
 | none :: js,[],_,_,_,_,_,h,_=>by simp at h
 | none :: js,o :: r,en,i,k,h,u,l,b=>by
  unfold wbB
  cases k with
  | zero=>simp at h
  | succ k=>exact lJ js r en i k (by simpa using h) (fun j' z=>by have:=u (j'+1) (by simpa using z); omega) (by simpa using l) b
 | some j :: js,o :: r,en,i,k,h,u,l,b=>by
  unfold wbB
  cases k with
  | zero =>
   have e:j=i:=by simpa using h
   subst e
   rw [jc js r _ j fun j' z=>by have:=u (j'+1) (by simpa using z); omega]
   rw [List.getElem?_set_self b]
   rfl
  | succ k=>exact lJ js r _ i k (by simpa using h) (fun j' z=>by have:=u (j'+1) (by simpa using z); omega) (by simpa using l) (by rw [List.length_set]; exact b)
theorem Ows.snoc:∀ {ts:List D} {vs:List V} {F1 F2:AS} {v:V},Ows K O H ts d vs F1→Ow K O H t d v F2→(∀ b,F1 b→¬ F2 b)→Ows K O H (ts++[t]) d (vs++[v]) (U F1 F2)
 | [],vs,F1,F2,v,h,h2,_=>by
  have e:vs=[]:=h
  subst e
  exact ⟨v,[],F2,NoA,rfl,fun _ z=>.inr z,fun _ z=>z.elim,fun _ _ z=>z.elim,h2,rfl⟩
 | u :: ts,vs,F1,F2,v,h,h2,hd=>by
  obtain ⟨w,r,G1,G2,e,s1,s2,s3,h4,h5⟩:=h
  subst e
  refine ⟨w,r++[v],G1,U G2 F2,rfl,fun b z=>.inl (s1 b z),fun b z=>z.imp (s2 b) id,fun b z z2=>?_,h4,Ows.snoc h5 h2 fun b z=>hd b (s2 b z)⟩
  rcases z2 with z2 | z2
  ·exact s3 b z z2
  ·exact hd b (s1 b z) z2
theorem Ows.len:∀ {ts:List D} {vs:List V} {F:AS},Ows K O H ts d vs F→vs.length=ts.length
 | [],_,_,h=>by rw [show _=[] from h]; rfl
 | t :: ts,_,_,h=>by
  obtain ⟨v,r,F1,F2,e,h1,h2,h3,h4,h5⟩:=h
  rw [e,List.length_cons,List.length_cons,h5.len]
def gy:List (Option Nat)→Nat→List Nat
 | [],_=>[]
 | some _ :: r,n=>n :: gy r (n+1)
 | none :: r,n=>gy r (n+1)
theorem ii:∀ {js:List (Option Nat)} {n k j:Nat},js[k]?=some (some j)→n+k∈gy js n
 | [],n,k,j,h=>by simp at h
 | some x :: r,n,k,j,h=>by
  unfold gy
  cases k with
  | zero=>exact List.mem_cons_self
  | succ k =>
   refine List.mem_cons_of_mem _ ?_
   have:=ii (n:=n+1) (k:=k) (j:=j) (by simpa using h)
   rw [show n+(k+1)=n+1+k by omega]
   exact this
 | none :: r,n,k,j,h=>by
  unfold gy
  cases k with
  | zero=>simp at h
  | succ k =>
   have:=ii (n:=n+1) (k:=k) (j:=j) (by simpa using h)
   rw [show n+(k+1)=n+1+k by omega]
   exact this
def mU (js:List (Option Nat)) (R1:Nat→AS):Nat→AS:=fun k=>match js[k]? with
 | some (some j)=>R1 j
 | _=>NoA
theorem zy {R1:Nat→AS} {k j:Nat} (h:js[k]?=some (some j)):mU js R1 k=R1 j:=by unfold mU; rw [h]
theorem zx {R1:Nat→AS} {k:Nat} {a:Addr} (h:mU js R1 k a):∃ j,js[k]?=some (some j)∧R1 j a:=by
 unfold mU at h
 cases q:js[k]? with
 | none=>rw [q] at h; exact h.elim
 | some o =>
  rw [q] at h
  cases o with
  | none=>exact h.elim
  | some j=>exact ⟨j,rfl,h⟩
theorem Dj {cd:Nat} (hc:gz ds1 js dsi=true) (hd:dn d=cd) (hz:d≠0) (hl:lk=gy js 0) (h:tF K (p && q) ds ds1 d (eLC q fi g c f js) σ H Q) :
  tLC (tFI K p ds ds1 fi) (tFG K lk dsi dsi g) (tFT K q dsi dsi c) (tF K q dsi dsi cd f) js σ H Q:=by
 obtain ⟨Ox,en,R,t,en',e,hf,k⟩:=h
 unfold eLC at hf
 obtain ⟨⟨ts,en1⟩,h1,hf⟩:=Option.bind_eq_some_iff.mp hf
 obtain ⟨⟨fin,enf⟩,h2,hf⟩:=Option.map_eq_some_iff.mp hf
 cases hf
 obtain ⟨cl,c1,c2⟩:=jO hc
 refine ⟨Ox,en,R,ts,en1,e,h1,fun J H1 R1 P1 wk D hD=>?_⟩
 have E1:=P1.env0
 generalize hRI:mU js R1=RI
 have ri1:∀ k j:Nat,js[k]?=some (some j)→RI k=R1 j:=fun k j z=>by rw [← hRI]; exact zy z
 have ric:∀ (k:Nat) a,RI k a→∃ j,js[k]?=some (some j)∧R1 j a:=fun k a z=>by rw [← hRI] at z; exact zx z
 let OxI:AS:=fun a=>Ox a∨a=D∨∃ i,R1 i a∧∀ k:Nat,js[k]?≠some (some i)
 have nD:∀ a,Own R1 Ox a→a≠D:=fun a z z2=>by
  subst z2
  obtain ⟨o,q⟩:=E1.dom a z
  rw [hD] at q
  cases q
 have lI:(cq js en1).length=js.length:=by unfold cq; rw [List.length_map]
 have lS:(dF js σ).length=js.length:=by unfold dF; rw [List.length_map]
 have getE:∀ (k:Nat) t,(cq js en1)[k]?=some (some t)→∃ j,js[k]?=some (some j)∧en1[j]?=some (some t):=fun k t z=>by
  unfold cq at z
  rw [List.getElem?_map] at z
  obtain ⟨oj,h1,h2⟩:=Option.map_eq_some_iff.mp z
  cases oj with
  | none=>cases h2
  | some j =>
   refine ⟨j,h1,?_⟩
   have h2':(en1[j]?).join=some t:=h2
   cases q:en1[j]? with
   | none=>rw [q] at h2'; cases h2'
   | some o=>rw [q] at h2'; exact congrArg some h2'
 have getS:∀ (k j:Nat) v,js[k]?=some (some j)→σ[j]?=some (some v)→(dF js σ)[k]?=some (some v):=fun k j v z1 z2=>by
  unfold dF
  rw [List.getElem?_map,z1]
  show some ((σ[j]?).join)=_
  rw [z2]
  rfl
 have u2:∀ a o,H1 a=some o→upd H1 D (.lst []) a=some o:=fun a o q=>(bK (o:=.lst []) hD).1 a o q
 have EI:EnvOk K dsi OxI (upd H1 D (.lst [])) (dF js σ) (cq js en1) RI:=by
  refine ⟨fun k t hk=>?_,fun k k' a z z'=>?_,fun k a z z2=>?_,fun a z=>?_,by rw [lI,lS],by rw [cl,lS]⟩
  ·obtain ⟨j,hj,ht⟩:=getE k t hk
   obtain ⟨v,d,g1,g2,g3⟩:=E1.at_ j t ht
   obtain ⟨d',q1,q2⟩:=c1 k j hj
   rw [g2] at q2
   cases q2
   refine ⟨v,d,getS k j v hj g1,q1,?_⟩
   rw [ri1 k j hj]
   refine Ow.mv (G:=R1 j) ⟨fun a o q _=>u2 a o q,fun a z=>?_⟩ t (fun _ z=>z) g3
   rcases z with ⟨k',z⟩ | z | z | ⟨i,z,_⟩
   ·obtain ⟨j',_,z⟩:=ric k' a z
    exact .inl (.inl ⟨j',z⟩)
   ·exact .inl (.inr z)
   ·exact .inr (z ▸ hD)
   ·exact .inl (.inl ⟨i,z⟩)
  ·obtain ⟨j,hj,z⟩:=ric k a z
   obtain ⟨j',hj',z'⟩:=ric k' a z'
   have:=E1.dj j j' a z z'
   subst this
   exact c2 k k' j hj hj'
  ·obtain ⟨j,hj,z⟩:=ric k a z
   rcases z2 with z2 | z2 | ⟨i,z2,n⟩
   ·exact E1.dx j a z z2
   ·exact nD a (.inl ⟨j,z⟩) z2
   ·have:=E1.dj j i a z z2
    subst this
    exact n k hj
  ·rcases z with ⟨k,z⟩ | z | z | ⟨i,z,_⟩
   ·obtain ⟨j,hj,z⟩:=ric k a z
    obtain ⟨o,q⟩:=E1.dom a (.inl ⟨j,z⟩)
    exact ⟨o,u2 a o q⟩
   ·obtain ⟨o,q⟩:=E1.dom a (.inr z)
    exact ⟨o,u2 a o q⟩
   ·subst z
    exact ⟨_,aL⟩
   ·obtain ⟨o,q⟩:=E1.dom a (.inl ⟨i,z⟩)
    exact ⟨o,u2 a o q⟩
 refine ⟨fun i n τ H'=>∃ eni RI' acc vs Fa,n=ts.length - i∧i≤ts.length∧PostS K lk dsi OxI (dF js σ) H1 RI τ eni H' RI' Fa∧H' D=some (.lst vs)∧Ows K (Own RI' (U Fa OxI)) H' acc cd vs Fa∧lcF g c f (ts.drop i) acc eni=some (fin,enf) ∧
   (q=true→(∀ k j:Nat,js[k]?=some (some j)→RI' k=RI k)∧(∀ a o,H1 a=some o→H' a=some o)),
  ⟨_,cq js en1,RI,[],[],NoA,rfl,Nat.zero_le _,⟨by rw [fw]; exact EI,fun _ z=>z.elim,fun a o q _=>u2 a o q,fun a z=>z.elim (fun z=>z.elim) .inl,fun a o q=>⟨o,u2 a o q⟩,fun _ _=>rfl⟩,aL,rfl,h2,fun _=>⟨fun _ _ _=>rfl,u2⟩⟩,?_⟩
 rintro i n τ H2 ⟨eni,RI2,acc,vs,Fa,rfl,hi,P2,hDl,oacc,hr,pu⟩
 have dw:∀ a,Own RI2 (U Fa OxI) a→Own R1 Ox a∨H1 a=none:=fun a z=>by
  rcases z with z | z | z | z | ⟨i,z,_⟩
  ·rcases P2.own a (.inr z) with ⟨k,z⟩ | z
   ·obtain ⟨j,_,z⟩:=ric k a z
    exact .inl (.inl ⟨j,z⟩)
   ·exact .inr z
  ·rcases P2.own a (.inl z) with ⟨k,z⟩ | z
   ·obtain ⟨j,_,z⟩:=ric k a z
    exact .inl (.inl ⟨j,z⟩)
   ·exact .inr z
  ·exact .inl (.inr z)
  ·exact .inr (z ▸ hD)
  ·exact .inl (.inl ⟨i,z⟩)
 obtain ⟨w1,w2⟩:=wk i H2 (Own RI2 (U Fa OxI)) (fun a o q z=>P2.keep a o q fun k zk=>by
  obtain ⟨j,_,zj⟩:=ric k a zk
  exact z (.inl ⟨j,zj⟩)) dw fun a z=>P2.env.dom a z
 have DO:OxI D:=.inr (.inl rfl)
 by_cases hlt:i < ts.length
 ·obtain ⟨go,yl⟩:=w1 ts[i] (List.getElem?_eq_getElem hlt)
  rw [List.drop_eq_getElem_cons hlt] at hr
  obtain ⟨en3,h3,hr⟩:=Option.bind_eq_some_iff.mp hr
  obtain ⟨⟨b,en4⟩,h4,hr⟩:=Option.bind_eq_some_iff.mp hr
  refine .inr ⟨go,fun τ' H'=>∃ eni RI' acc vs Fa,PostS K lk dsi OxI (dF js σ) H1 RI τ' eni H' RI' Fa∧H' D=some (.lst vs)∧Ows K (Own RI' (U Fa OxI)) H' acc cd vs Fa∧lcF g c f (ts.drop (i+1)) acc eni=some (fin,enf)∧(q=true→(∀ k j:Nat,js[k]?=some (some j)→RI' k=RI k)∧(∀ a o,H1 a=some o→H' a=some o)),
   fun τ' H' ⟨eni,RI',acc,vs,Fa,P',x1,x2,x3,x4⟩=>⟨_,by omega,eni,RI',acc,vs,Fa,rfl,hlt,P',x1,x2,x3,x4⟩,fun x H3 y=>?_⟩
  obtain ⟨gr,ox⟩:=yl x H3 y
  have P3:Post K true dsi (U Fa OxI) τ H2 eni RI2 eni H3 RI2 NoA:=Post.new P2.env gr fun _ z=>z.elim
  have chain:∀ {τ5 en5 H5 RI5 F5},PostS K lk dsi (U Fa OxI) τ H2 RI2 τ5 en5 H5 RI5 F5→PostS K lk dsi OxI (dF js σ) H1 RI τ5 en5 H5 RI5 (U Fa F5):=fun {τ5 en5 H5 RI5 F5} P5=>by
   have n1:∀ a,H2 a=none→H1 a=none:=fun a z=>by
    cases q:H1 a with
    | none=>rfl
    | some o =>
     obtain ⟨o',q'⟩:=P2.dom a o q
     rw [z] at q'
     cases q'
   refine ⟨kj ▸ P5.env,fun a z z2=>?_,fun a o q n=>?_,fun a z=>?_,fun a o q=>?_,fun j hj=>(P5.lk j hj).trans (P2.lk j hj)⟩
   ·rcases z with z | z
    ·exact P2.fx a z z2
    ·exact P5.fx a z (.inr z2)
   ·refine P5.keep a o (P2.keep a o q n) fun i z=>?_
    rcases P2.own a (.inr ⟨i,z⟩) with ⟨j,z⟩ | z
    ·exact n j z
    ·rw [q] at z; cases z
   ·rcases z with (z | z) | z
    ·exact P2.own a (.inl z)
    ·rcases P5.own a (.inl z) with z | z
     ·exact P2.own a (.inr z)
     ·exact .inr (n1 a z)
    ·rcases P5.own a (.inr z) with z | z
     ·exact P2.own a (.inr z)
     ·exact .inr (n1 a z)
   ·obtain ⟨o',q'⟩:=P2.dom a o q
    exact P5.dom a o' q'
  have carry:∀ {τ5 en5 H5 RI5 F5},PostS K lk dsi (U Fa OxI) τ H2 RI2 τ5 en5 H5 RI5 F5→Ows K (Own RI5 (U (U Fa F5) OxI)) H5 acc cd vs Fa:=fun {τ5 en5 H5 RI5 F5} P5=>by
   refine Ows.mv (G:=Fa) ⟨fun a o q z=>P5.keep a o q fun i zi=>?_,fun a z=>?_⟩ acc (fun _ z=>z) oacc
   ·rcases z with z | z
    ·exact z (.inl ⟨i,zi⟩)
    ·exact P2.env.dx i a zi (.inl z)
   ·rcases z with z | (z | z) | z
    ·exact (P5.own a (.inr z)).imp .inl id
    ·exact .inl (.inr (.inl z))
    ·exact (P5.own a (.inl z)).imp .inl id
    ·exact .inl (.inr (.inr z))
  have UFN:U Fa NoA=Fa:=dG fun a=>⟨fun z=>z.elim id fun z=>z.elim,.inl⟩
  refine ⟨U Fa OxI,eni,RI2,ts[i],en3,P3.env0,ox,h3,fun τ4 R4 P4 r4=>?_⟩
  have P4':=(P3.s (lk:=lk)).after P4
  refine ⟨U Fa OxI,en3,R4,b,en4,P4.env0,h4,fun H5 R5 P5=>?_⟩
  have P5':=P4'.after (P5.s (lk:=lk))
  have pu5:q=true→(∀ k j:Nat,js[k]?=some (some j)→R5 k=RI k)∧(∀ a o,H1 a=some o→H5 a=some o):=fun hq=>by
   obtain ⟨_,b2,b3⟩:=P5.pure hq
   obtain ⟨e1,e2⟩:=pu hq
   refine ⟨fun k j z=>?_,fun a o qq=>b3 a o (gr a o (e2 a o qq))⟩
   rw [b2,r4 k (by rw [hl]; have:=ii (n:=0) z; rw [Nat.zero_add] at this; exact this)]
   exact e1 k j z
  cases b with
  | false =>
   dsimp only
   rw [if_neg Bool.false_ne_true]
   have c5:=chain P5'
   have o5:=carry P5'
   rw [UFN] at c5 o5
   exact ⟨en4,R5,acc,vs,Fa,c5,P5'.keep D _ hDl fun k z=>P2.env.dx k D z (.inr DO),o5,hr,pu5⟩
  | true =>
   dsimp only
   rw [if_pos rfl]
   obtain ⟨⟨t6,en6⟩,h6,hr⟩:=Option.bind_eq_some_iff.mp (show ((f en4).bind fun q=>if acc.length < sizeLine then lcF g c f (ts.drop (i+1)) (acc++[q.1]) q.2 else none)=some (fin,enf) from hr)
   refine ⟨U Fa OxI,en4,R5,t6,en6,P5.env0,h6,fun v H6 R6 F6 P6 o6=>?_⟩
   have P6':=P5'.after (P6.s (lk:=lk))
   by_cases hlen:acc.length < sizeLine
   case neg=>rw [if_neg hlen] at hr; cases hr
   rw [if_pos hlen] at hr
   have hD6:=P6'.keep D _ hDl fun k z=>P2.env.dx k D z (.inr DO)
   refine ⟨vs,hD6,by rw [oacc.len]; exact hlen,en6,R6,acc++[t6],vs++[v],U Fa F6,?_,aL,?_,hr,?_⟩
   ·have c6:=chain P6'
    have keepD:∀ a o,H6 a=some o→a≠D→upd H6 D (.lst (vs++[v])) a=some o:=fun a o q n=>by rw [aM n]; exact q
    refine ⟨⟨fun k t hk=>?_,c6.env.dj,c6.env.dx,fun a z=>?_,c6.env.l1,c6.env.l2⟩,c6.fx,fun a o q n=>?_,c6.own,fun a o q=>?_,c6.lk⟩
    ·obtain ⟨v',d',g1,g2,g3⟩:=c6.env.at_ k t hk
     refine ⟨v',d',g1,g2,Ow.mv (G:=R6 k) ⟨fun a o q z=>keepD a o q fun zD=>?_,fun a z=>.inl z⟩ t (fun _ z=>z) g3⟩
     subst zD
     rcases z with z | z
     ·exact z (.inr (.inr DO))
     ·exact c6.env.dx k a z (.inr DO)
    ·by_cases ha:a=D
     ·subst ha; exact ⟨_,aL⟩
     ·obtain ⟨o,q⟩:=c6.env.dom a z
      exact ⟨o,keepD a o q ha⟩
    ·refine keepD a o (c6.keep a o q n) fun zD=>?_
     subst zD
     rw [hD] at q
     cases q
    ·obtain ⟨o',q'⟩:=c6.dom a o q
     by_cases ha:a=D
     ·subst ha; exact ⟨_,aL⟩
     ·exact ⟨o',keepD a o' q' ha⟩
   ·have o1:=carry P6'
    have o2:Ow K (Own R6 (U (U Fa F6) OxI)) H6 t6 cd v F6:=kj ▸ o6
    have:=Ows.snoc o1 o2 fun b z1 z2=>P6.fx b z2 (.inl z1)
    refine Ows.mv (G:=U Fa F6) ⟨fun a o q z=>?_,fun a z=>.inl z⟩ _ (fun _ z=>z) this
    rw [aM]
    ·exact q
    ·intro zD
     subst zD
     rcases z with z | z | z
     ·exact z (.inr (.inr DO))
     ·exact P2.fx a z DO
     ·exact P6.fx a z (.inr DO)
   ·intro hq
    obtain ⟨_,b2,b3⟩:=P6.pure hq
    obtain ⟨e1,e2⟩:=pu5 hq
    refine ⟨fun k j z=>by rw [b2]; exact e1 k j z,fun a o qq=>?_⟩
    rw [aM]
    ·exact b3 a o (e2 a o qq)
    ·intro zD
     subst zD
     rw [hD] at qq
     cases qq
 ·have e2:i=ts.length:=by omega
  subst e2
  rw [List.drop_length] at hr
  obtain ⟨e3,e4⟩:acc=fin∧eni=enf:=by cases hr; exact ⟨rfl,rfl⟩
  subst e3 e4
  refine .inl ⟨w2 rfl,?_⟩
  have fD:∀ a,Fa a→a≠D:=fun a z z2=>by
   subst z2
   exact P2.fx a z DO
  cases hq:q with
  | true =>
   obtain ⟨e1,e2⟩:=pu hq
   subst hq
   have fn:∀ a,Fa a→H1 a=none:=fun a z=>by
    rcases P2.own a (.inl z) with ⟨k,z2⟩ | z2
    ·obtain ⟨j,hj,z3⟩:=ric k a z2
     rw [← e1 k j hj] at z2
     exact absurd (.inl z) (P2.env.dx k a z2)
    ·exact z2
   have nt:NewTo H1 H2 (fun a=>a=D∨Fa a):=⟨e2,fun a z=>by
    rcases z with z | z
    ·subst z
     exact ⟨hD,_,hDl⟩
    ·exact ⟨fn a z,P2.env.dom a (.inr (.inl z))⟩⟩
   have PF:=P1.fin nt
   rw [Bool.and_true] at k
   refine k (.ref D) H2 R1 _ PF ⟨D,vs,rfl,.inr ⟨hz,hDl,.inl rfl,Fa,fun b z=>⟨.inr z,fD b z⟩,?_⟩⟩
   rw [hd]
   refine Ows.grow (fun a z=>?_) _ (fun _ z=>z) oacc
   rcases z with ⟨i,z⟩ | (z | z) | z
   ·by_cases hc2:∃ kk:Nat,js[kk]?=some (some i)
    ·obtain ⟨kk,hk⟩:=hc2
     refine .inl ⟨kk,?_⟩
     rw [e1 kk i hk,ri1 kk i hk]
     exact z
    ·exact .inr (.inr (.inr (.inr ⟨i,z,fun kk hk=>hc2 ⟨kk,hk⟩⟩)))
   ·exact .inr (.inr (z ▸ DO))
   ·exact .inr (.inl z)
   ·exact .inr (.inr (.inl z))
  | false =>
   subst hq
   rw [Bool.and_false] at k
   classical
   let R3:Nat→AS:=fun i=>if hh:∃ kk:Nat,js[kk]?=some (some i) then RI2 hh.choose else R1 i
   have r31:∀ (i kk:Nat),js[kk]?=some (some i)→R3 i=RI2 kk:=fun i kk z=>by
    have hh:∃ kk:Nat,js[kk]?=some (some i):=⟨kk,z⟩
    have:hh.choose=kk:=c2 _ _ i hh.choose_spec z
    show (if hh:∃ kk:Nat,js[kk]?=some (some i) then RI2 hh.choose else R1 i)=RI2 kk
    rw [dif_pos hh,this]
   have r32:∀ i:Nat,(∀ kk:Nat,js[kk]?≠some (some i))→R3 i=R1 i:=fun i z=>by
    show (if hh:∃ kk:Nat,js[kk]?=some (some i) then RI2 hh.choose else R1 i)=R1 i
    rw [dif_neg fun ⟨j,q⟩=>z j q]
   have r3c:∀ (i:Nat) a,R3 i a→(∃ kk:Nat,js[kk]?=some (some i)∧RI2 kk a)∨((∀ kk:Nat,js[kk]?≠some (some i))∧R1 i a):=fun i a z=>by
    by_cases hh:∃ kk:Nat,js[kk]?=some (some i)
    ·obtain ⟨kk,hk⟩:=hh
     rw [r31 i kk hk] at z
     exact .inl ⟨kk,hk,z⟩
    ·rw [r32 i fun j z=>hh ⟨j,z⟩] at z
     exact .inr ⟨fun j z=>hh ⟨j,z⟩,z⟩
   have sub3:∀ a,Own R3 (U (fun a=>a=D∨Fa a) Ox) a→Own RI2 (U Fa OxI) a:=fun a z=>by
    rcases z with ⟨i,z⟩ | (z | z) | z
    ·rcases r3c i a z with ⟨j,_,z⟩ | ⟨n,z⟩
     ·exact .inl ⟨j,z⟩
     ·exact .inr (.inr (.inr (.inr ⟨i,z,n⟩)))
    ·exact .inr (.inr (z ▸ DO))
    ·exact .inr (.inl z)
    ·exact .inr (.inr (.inl z))
   have el:eni.length=js.length:=by rw [P2.env.l1,← P2.env.l2]; exact cl
   have riO:∀ (kk:Nat) a,RI kk a→Own R1 Ox a:=fun kk a z=>by
    obtain ⟨j,_,z⟩:=ric kk a z
    exact .inl ⟨j,z⟩
   have env3:EnvOk K ds1 (U (fun a=>a=D∨Fa a) Ox) H2 σ (wbB js eni en1) R3:=by
    refine ⟨fun i u hu=>?_,fun i i' a z z'=>?_,fun i a z z2=>?_,fun a z=>P2.env.dom a (sub3 a z),by rw [kt]; exact E1.l1,E1.l2⟩
    ·by_cases hh:∃ kk:Nat,js[kk]?=some (some i)
     ·obtain ⟨kk,hk⟩:=hh
      obtain ⟨dd,q1,q2⟩:=c1 kk i hk
      have hil:i < en1.length:=by rw [E1.l1,← E1.l2]; exact (List.getElem?_eq_some_iff.mp q2).1
      rw [lJ js eni en1 i kk hk (fun k' z=>c2 k' kk i z hk) el hil] at hu
      obtain ⟨v,d',g1,g2,g3⟩:=P2.env.at_ kk u hu
      rw [q1] at g2
      cases g2
      have hlk:=P2.lk kk (by rw [hl]; have:=ii (n:=0) hk; rw [Nat.zero_add] at this; exact this)
      rw [hlk] at g1
      refine ⟨v,dd,?_,q2,?_⟩
      ·unfold dF at g1
       rw [List.getElem?_map,hk] at g1
       have g1':(σ[i]?).join=some v:=Option.some.inj g1
       cases q3:σ[i]? with
       | none=>rw [q3] at g1'; cases g1'
       | some o=>rw [q3] at g1'; exact congrArg some g1'
      ·rw [r31 i kk hk]
       exact Ow.grow sub3 u (fun _ z=>z) g3
     ·rw [jc js eni en1 i fun j z=>hh ⟨j,z⟩] at hu
      have ns:∀ j:Nat,js[j]?≠some (some i):=fun j z=>hh ⟨j,z⟩
      obtain ⟨v,d',g1,g2,g3⟩:=E1.at_ i u hu
      refine ⟨v,d',g1,g2,?_⟩
      rw [r32 i ns]
      refine Ow.mv (G:=R1 i) ⟨fun a o q z=>P2.keep a o q fun j zj=>?_,fun a z=>dw a (sub3 a z)⟩ u (fun _ z=>z) g3
      obtain ⟨j',hj',zj⟩:=ric j a zj
      rcases z with z | z
      ·exact z (.inl ⟨j',zj⟩)
      ·have:=E1.dj i j' a z zj
       subst this
       exact ns j hj'
    ·rcases r3c i a z with ⟨j,q,z⟩ | ⟨n,z⟩ <;> rcases r3c i' a z' with ⟨j',q',z'⟩ | ⟨n',z'⟩
     ·have:=P2.env.dj j j' a z z'
      subst this
      rw [q] at q'
      cases q'
      rfl
     ·exact absurd (.inr (.inr (.inr ⟨i',z',n'⟩))) (P2.env.dx j a z)
     ·exact absurd (.inr (.inr (.inr ⟨i,z,n⟩))) (P2.env.dx j' a z')
     ·exact E1.dj i i' a z z'
    ·rcases r3c i a z with ⟨j,q,z⟩ | ⟨n,z⟩
     ·refine P2.env.dx j a z ?_
      rcases z2 with (z2 | z2) | z2
      ·exact .inr (z2 ▸ DO)
      ·exact .inl z2
      ·exact .inr (.inl z2)
     ·rcases z2 with (z2 | z2) | z2
      ·exact nD a (.inl ⟨i,z⟩) z2
      ·exact P2.fx a z2 (.inr (.inr ⟨i,z,n⟩))
      ·exact E1.dx i a z z2
   have n1:∀ a,H1 a=none→H a=none:=fun a z=>by
    cases q:H a with
    | none=>rfl
    | some o =>
     obtain ⟨o',q'⟩:=P1.dom a o q
     rw [z] at q'
     cases q'
   refine k (.ref D) H2 R3 (fun a=>a=D∨Fa a) ⟨env3,fun a z z2=>?_,fun a o q n=>?_,fun a z=>?_,fun a o q=>?_,fun z=>nomatch z⟩ ⟨D,vs,rfl,.inr ⟨hz,hDl,.inl rfl,Fa,fun b z=>⟨.inr z,fD b z⟩,?_⟩⟩
   ·rcases z with z | z
    ·exact nD a (.inr z2) z
    ·exact P2.fx a z (.inl z2)
   ·refine P2.keep a o (P1.keep a o q n) fun kk z=>?_
    obtain ⟨j,_,z⟩:=ric kk a z
    rcases P1.own a (.inr ⟨j,z⟩) with ⟨i',z⟩ | z
    ·exact n i' z
    ·rw [q] at z; cases z
   ·have h3:(∃ i,R1 i a)∨H1 a=none:=by
     have h4:(Fa a∨∃ kk,RI2 kk a)→(∃ i,R1 i a)∨H1 a=none:=fun z=>by
      rcases P2.own a z with ⟨kk,z⟩ | z
      ·obtain ⟨j,_,z⟩:=ric kk a z
       exact .inl ⟨j,z⟩
      ·exact .inr z
     rcases z with (z | z) | ⟨i,z⟩
     ·exact .inr (z ▸ hD)
     ·exact h4 (.inl z)
     ·rcases r3c i a z with ⟨j,_,z⟩ | ⟨n,z⟩
      ·exact h4 (.inr ⟨j,z⟩)
      ·exact .inl ⟨i,z⟩
    rcases h3 with h3 | h3
    ·exact P1.own a (.inr h3)
    ·exact .inr (n1 a h3)
   ·obtain ⟨o',q'⟩:=P1.dom a o q
    exact P2.dom a o' q'
   ·rw [hd]
    exact Ows.grow sub3 _ (fun _ z=>z) oacc
end
end L2
namespace L2
open PySem PySem.Spec PyProof.Rows
def msk:List Nat→En→En
 | d :: ds,o :: en=>(if d=0 then none else o) :: msk ds en
 | _,_=>[]
def fnF (n:Nat) (dps:List Nat) (b:MS):List PyData→Option (PyData × En):=fun ts=>(b (ts.map some++List.replicate n none)).bind fun fl=>match fl with
 | .rt t en=>some (t,msk dps en)
 | .nx en=>some (.none,msk dps en)
 | .ct _=>none
def mq (dps:List Nat):List Nat:=(List.range dps.length).filter fun j=>dps[j]? != some 0
section
variable {K:PySem.W.Frag} {p p1 p2 q:Bool} {J:Jd} {lk:List Nat} {ds ds0 ds1 ds2 ds' dps:List Nat} {Ox Ox' O O':AS} {H H' H1:Hp} {σ σ':St} {en en' en1 en2:En} {R R' R1:Nat→AS} {d d' d1 d2 dr:Nat} {t t1 t2:PyData} {Q:VK} {f f1 f2:ME} {i:Nat} {v:V} {D:Ends}
theorem nz:∀ {dps:List Nat} {en:En} {j:Nat} {u:PyData},(msk dps en)[j]?=some (some u)→∃ d,dps[j]?=some d∧d≠0∧en[j]?=some (some u)
 | [],en,j,u,h=>by unfold msk at h; simp at h
 | d :: ds,[],j,u,h=>by unfold msk at h; simp at h
 | d :: ds,o :: en,j,u,h=>by
  unfold msk at h
  cases j with
  | zero =>
   by_cases hd:d=0
   ·simp [hd] at h
   ·refine ⟨d,rfl,hd,?_⟩
    simpa [hd] using h
  | succ j =>
   have:=nz (dps:=ds) (en:=en) (j:=j) (u:=u) (by simpa using h)
   simpa using this
theorem ny:∀ {dps:List Nat} {en:En},dps.length≤en.length→(msk dps en).length=dps.length
 | [],en,_=>by unfold msk; rfl
 | d :: ds,[],h=>by simp at h
 | d :: ds,o :: en,h=>by
  unfold msk
  rw [List.length_cons,List.length_cons,ny (by simpa using h)]
theorem yV {N:List Str} {vs:List V} {E:XK} {n:Nat} {b:MS} (hn:N.length - dps.length=n) (h:spF K dps dr (fnF n dps b) vs H Q E) :
  tFS K ⟨mq dps,dps++List.replicate n 0,dr,[]⟩ (dps++List.replicate n 0) (dps++List.replicate n 0) b { nx:=fun _ H'=>Q .non H',rt:=Q } (de N vs) H:=by
 obtain ⟨Ox,ts,R,r,outs,e,hf,k⟩:=h
 have lv:dps.length=vs.length:=by have:=e.l2; rw [List.length_map] at this; exact this
 have lt:ts.length=vs.length:=by have:=e.l1; rw [List.length_map,List.length_map] at this; exact this
 have hs:de N vs=vs.map some++List.replicate n none:=by unfold de; rw [← lv,hn]
 unfold fnF at hf
 obtain ⟨fl,h1,hf⟩:=Option.bind_eq_some_iff.mp hf
 have get0:∀ {α:Type} (xs:List α) (i:Nat) (u:α),(xs.map some++List.replicate n none)[i]?=some (some u)→(xs.map some)[i]?=some (some u)∧i < xs.length:=fun xs i u z=>by
  by_cases hi:i < xs.length
  ·rw [List.getElem?_append_left (by rw [List.length_map]; exact hi)] at z
   exact ⟨z,hi⟩
  ·rw [List.getElem?_append_right (by rw [List.length_map]; omega),List.getElem?_replicate] at z
   split at z
   ·cases z
   ·cases z
 have e0:EnvOk K (dps++List.replicate n 0) Ox H (de N vs) (ts.map some++List.replicate n none) R:=by
  rw [hs]
  refine ⟨fun i u hu=>?_,e.dj,e.dx,e.dom,by simp [lt],by simp [lv]⟩
  obtain ⟨hu',hi⟩:=get0 ts i u hu
  obtain ⟨v,d,g1,g2,g3⟩:=e.at_ i u hu'
  refine ⟨v,d,?_,?_,g3⟩
  ·rw [List.getElem?_append_left (by rw [List.length_map]; omega)]; exact g1
  ·rw [List.getElem?_append_left (by omega)]; exact g2
 have back:∀ {σ' en' H' R' F},PostS K (mq dps) (dps++List.replicate n 0) Ox (de N vs) H R σ' en' H' R' F→Post K false dps Ox (vs.map some) H (ts.map some) R (msk dps en') H' R' F:=fun {σ' en' H' R' F} P=>by
  have l1:=P.env.l1
  have l2:=P.env.l2
  rw [List.length_append,List.length_replicate] at l2
  refine ⟨⟨fun j u hu=>?_,P.env.dj,P.env.dx,P.env.dom,by rw [ny (by omega),List.length_map]; exact lv,by rw [List.length_map]; exact lv⟩,P.fx,P.keep,P.own,P.dom,fun z=>nomatch z⟩
  obtain ⟨d,a1,a2,a3⟩:=nz hu
  obtain ⟨v,d',g1,g2,g3⟩:=P.env.at_ j u a3
  have hj:j < dps.length:=(List.getElem?_eq_some_iff.mp a1).1
  have hlk:j∈mq dps:=by
   unfold mq
   rw [List.mem_filter,List.mem_range]
   refine ⟨hj,?_⟩
   rw [a1]
   simpa using a2
  rw [P.lk j hlk,hs,List.getElem?_append_left (by rw [List.length_map]; omega)] at g1
  rw [List.getElem?_append_left hj] at g2
  exact ⟨v,d',g1,g2,g3⟩
 refine ⟨Ox,_,R,fl,e0,h1,?_⟩
 cases fl with
 | nx en2 =>
  cases hf
  exact fun σ2 H2 R2 P2=>k .non H2 R2 NoA (back P2) rfl
 | ct en2=>cases hf
 | rt t en2 =>
  cases hf
  exact fun v σ2 H2 R2 F P2 o=>k v H2 R2 F (back P2) o
theorem Post.slot {F G F':AS} {l:Addr} {o2:HO} (P:Post K p ds1 Ox σ H en R en1 H1 R1 F) (hl:R1 i l) (hi:i < en1.length) (hv:σ[i]?=some (some v)) (hd:ds1[i]?=some d)
  (hg:∀ a,G a→R1 i a∨F a) (hf:∀ a,F' a→R1 i a∨F a) (hx:∀ a,G a→¬ F' a)
  (ho:Ow K (Own (fun j=>if j=i then G else R1 j) (U F' Ox)) (upd H1 l o2) t d v G) :
  Post K false ds1 Ox σ H en R (en1.set i (some t)) (upd H1 l o2) (fun j=>if j=i then G else R1 j) F':=by
 have rc:∀ (j:Nat) a,(if j=i then G else R1 j) a→R1 j a∨(j=i∧F a):=fun j a z=>by
  by_cases hj:j=i
  ·rw [if_pos hj] at z
   rcases hg a z with z | z
   ·exact .inl (hj ▸ z)
   ·exact .inr ⟨hj,z⟩
  ·rw [if_neg hj] at z; exact .inl z
 have sub:∀ a,Own (fun j=>if j=i then G else R1 j) (U F' Ox) a→Own R1 (U F Ox) a:=fun a z=>by
  rcases z with ⟨j,z⟩ | z | z
  ·rcases rc j a z with z | ⟨_,z⟩
   ·exact .inl ⟨j,z⟩
   ·exact .inr (.inl z)
  ·rcases hf a z with z | z
   ·exact .inl ⟨i,z⟩
   ·exact .inr (.inl z)
  ·exact .inr (.inr z)
 have dom2:∀ a o,H1 a=some o→∃ o',upd H1 l o2 a=some o':=fun a o q=>by
  by_cases ha:a=l
  ·subst ha; exact ⟨_,aL⟩
  ·exact ⟨o,by rw [aM ha]; exact q⟩
 have nl:∀ a o,H1 a=some o→a≠l→upd H1 l o2 a=some o:=fun a o q n=>by rw [aM n]; exact q
 refine ⟨⟨fun j u hu=>?_,fun j j' a z z'=>?_,fun j a z z2=>?_,fun a z=>?_,by rw [List.length_set]; exact P.env.l1,P.env.l2⟩,fun a z z2=>?_,fun a o q n=>?_,fun a z=>?_,fun a o q=>?_,fun z=>nomatch z⟩
 ·by_cases hj:j=i
  ·subst hj
   rw [List.getElem?_set_self hi] at hu
   cases hu
   refine ⟨v,d,hv,hd,?_⟩
   rw [if_pos rfl]
   exact ho
  ·rw [List.getElem?_set_ne (Ne.symm hj)] at hu
   obtain ⟨v',d',g1,g2,g3⟩:=P.env.at_ j u hu
   refine ⟨v',d',g1,g2,?_⟩
   rw [if_neg hj]
   refine Ow.mv (G:=R1 j) ⟨fun a o q z=>nl a o q fun za=>?_,fun a z=>.inl (sub a z)⟩ u (fun _ z=>z) g3
   subst za
   rcases z with z | z
   ·exact z (.inl ⟨i,hl⟩)
   ·exact hj (P.env.dj j i a z hl)
 ·have z0:=z
  have z0':=z'
  by_cases hj:j=i <;> by_cases hj':j'=i
  ·rw [hj,hj']
  ·rw [if_pos hj] at z0; rw [if_neg hj'] at z0'
   rcases hg a z0 with z1 | z1
   ·exact absurd (P.env.dj i j' a z1 z0') (fun e=>hj' e.symm)
   ·exact absurd (.inl z1) (P.env.dx j' a z0')
  ·rw [if_neg hj] at z0; rw [if_pos hj'] at z0'
   rcases hg a z0' with z1 | z1
   ·exact absurd (P.env.dj j i a z0 z1) hj
   ·exact absurd (.inl z1) (P.env.dx j a z0)
  ·rw [if_neg hj] at z0; rw [if_neg hj'] at z0'
   exact P.env.dj j j' a z0 z0'
 ·have z0:=z
  by_cases hj:j=i
  ·rw [if_pos hj] at z0
   rcases z2 with z2 | z2
   ·exact hx a z0 z2
   ·rcases hg a z0 with z1 | z1
    ·exact P.env.dx i a z1 (.inr z2)
    ·exact P.fx a z1 z2
  ·rw [if_neg hj] at z0
   rcases z2 with z2 | z2
   ·rcases hf a z2 with z1 | z1
    ·exact hj (P.env.dj j i a z0 z1)
    ·exact P.env.dx j a z0 (.inl z1)
   ·exact P.env.dx j a z0 (.inr z2)
 ·obtain ⟨o,q⟩:=P.env.dom a (sub a z)
  exact dom2 a o q
 ·rcases hf a z with z1 | z1
  ·exact P.env.dx i a z1 (.inr z2)
  ·exact P.fx a z1 z2
 ·refine nl a o (P.keep a o q n) fun za=>?_
  subst za
  rcases P.own a (.inr ⟨i,hl⟩) with ⟨j,z⟩ | z
  ·exact n j z
  ·rw [q] at z; cases z
 ·have:F a∨∃ j,R1 j a:=by
   rcases z with z | ⟨j,z⟩
   ·rcases hf a z with z | z
    ·exact .inr ⟨i,z⟩
    ·exact .inl z
   ·rcases rc j a z with z | ⟨_,z⟩
    ·exact .inr ⟨j,z⟩
    ·exact .inl z
  exact P.own a this
 ·obtain ⟨o',q'⟩:=P.dom a o q
  exact dom2 a o' q'
theorem i5 {G F' F:AS} (hg:∀ a,G a→R1 i a∨F a) (hf:∀ a,F' a→R1 i a∨F a):∀ a,Own (fun j=>if j=i then G else R1 j) (U F' Ox) a→Own R1 (U F Ox) a:=fun a z=>by
 rcases z with ⟨j,z⟩ | z | z
 ·by_cases hj:j=i
  ·rw [if_pos hj] at z
   rcases hg a z with z | z
   ·exact .inl ⟨i,z⟩
   ·exact .inr (.inl z)
  ·rw [if_neg hj] at z; exact .inl ⟨j,z⟩
 ·rcases hf a z with z | z
  ·exact .inl ⟨i,z⟩
  ·exact .inr (.inl z)
 ·exact .inr (.inr z)
theorem a9 {α:Type} {en:List (Option α)} {i:Nat} {t:α} (h:(en[i]?).join=some t):en[i]?=some (some t):=by
 cases q:en[i]? with
 | none=>rw [q] at h; cases h
 | some o=>rw [q] at h; exact congrArg some h
theorem Ow.sqL {ts:List PyData} {F:AS} (h:Ow K O H (.list ts) d v F):∃ a vs,v=.ref a∧SqL K H a vs:=by
 obtain ⟨a,vs,e,⟨_,h1,_⟩ | ⟨_,h1,_⟩⟩:=h
 ·exact ⟨a,vs,e,h1.sq⟩
 ·exact ⟨a,vs,e,SqL.of h1⟩
theorem Ow.ownL {ts:List PyData} {F:AS} (hd:d≠0) (h:Ow K O H (.list ts) d v F):∃ a vs,v=.ref a∧H a=some (.lst vs)∧F a∧∃ F':AS,(∀ b,F' b→F b∧b≠a)∧Ows K O H ts (dn d) vs F':=by
 obtain ⟨a,vs,e,⟨h0,_⟩ | ⟨_,h1,h2,h3⟩⟩:=h
 ·exact absurd h0 hd
 ·exact ⟨a,vs,e,h1,h2,h3⟩
theorem Ows.past {ts:List PyData} {vs:List V} {F:AS} {l:Addr} {o:HO} (ho:∀ a,O' a→O a) (hl:O l) (hf:∀ b,F b→b≠l) (h:Ows K O H ts d vs F):Ows K O' (upd H l o) ts d vs F :=
 Ows.mv (G:=F) ⟨fun a u q z=>by
  rw [aM]
  ·exact q
  ·intro za
   subst za
   rcases z with z | z
   ·exact z hl
   ·exact hf a z rfl,fun a z=>.inl (ho a z)⟩ ts (fun _ z=>z) h
theorem Ow.past {F:AS} {l:Addr} {o:HO} (ho:∀ a,O' a→O a) (hl:O l) (hf:∀ b,F b→b≠l) (h:Ow K O H t d v F):Ow K O' (upd H l o) t d v F :=
 Ow.mv (G:=F) ⟨fun a u q z=>by
  rw [aM]
  ·exact q
  ·intro za
   subst za
   rcases z with z | z
   ·exact z hl
   ·exact hf a z rfl,fun a z=>.inl (ho a z)⟩ t (fun _ z=>z) h
def bP (i:Nat) (f:ME):ME:=fun en=>match (en[i]?).join with
 | some (.list _)=>(f en).bind fun r=>match (r.2[i]?).join with
  | some (.list ts)=>if ts.length < sizeLine then some (.none,r.2.set i (some (.list (ts++[r.1])))) else none
  | _=>none
 | _=>none
theorem Ez {c:Nat} (hd:ds1[i]?=some d) (hz:d≠0) (hc:dn d=c) (h:tF K false ds ds1 3 (bP i f) σ H Q):tBM K "list" nq (eE i) (lB (tF K p ds ds1 c f) qt) σ H Q:=by
 obtain ⟨Ox,en,R,t,en',e,hf,k⟩:=h
 unfold bP at hf
 split at hf
 case h_2=>cases hf
 next ts0 h0 =>
 obtain ⟨⟨t1,en1⟩,h1,hf⟩:=Option.bind_eq_some_iff.mp hf
 dsimp only at hf
 split at hf
 case h_2=>cases hf
 next ts h2 =>
 by_cases hlen:ts.length < sizeLine
 case neg=>rw [if_neg hlen] at hf; cases hf
 rw [if_pos hlen] at hf
 cases hf
 obtain ⟨v,d0,a1,_,a3⟩:=e.at_ i _ (a9 h0)
 obtain ⟨l0,vs0,e0,sq⟩:=a3.sqL
 refine ⟨v,a1,?_,Ox,en,R,t1,en1,e,h1,fun x H1 R1 F P o=>?_⟩
 ·rw [e0]; exact .inl ⟨rfl,vs0,sq⟩
 obtain ⟨v',d',b1,b2,b3⟩:=P.env.at_ i _ (a9 h2)
 rw [a1] at b1
 cases b1
 rw [hd] at b2
 cases b2
 obtain ⟨l,vs,el,hl,hr,F',hf',ow⟩:=b3.ownL hz
 refine ⟨l,vs,x,el,rfl,hl,by rw [ow.len]; exact hlen,?_⟩
 have hi:i < en1.length:=(List.getElem?_eq_some_iff.mp (a9 h2)).1
 have Fn:∀ a,F a→a≠l:=fun a z z2=>by
  subst z2
  exact P.env.dx i a hr (.inl z)
 have sub:=i5 (i:=i) (R1:=R1) (Ox:=Ox) (G:=fun a=>R1 i a∨F a) (F':=NoA) (F:=F) (fun _ z=>z) (fun _ z=>z.elim)
 have Ol:Own R1 (U F Ox) l:=.inl ⟨i,hr⟩
 refine k .non (upd H1 l (.lst (vs++[x]))) _ NoA (P.slot (G:=fun a=>R1 i a∨F a) hr hi a1 hd (fun _ z=>z) (fun _ z=>z.elim) (fun _ _ z=>z) ?_) rfl
 refine ⟨l,vs++[x],el,.inr ⟨hz,aL,.inl hr,U F' F,fun b z=>?_,?_⟩⟩
 ·rcases z with z | z
  ·exact ⟨.inl (hf' b z).1,(hf' b z).2⟩
  ·exact ⟨.inr z,Fn b z⟩
 ·refine Ows.snoc (Ows.past sub Ol (fun b z=>(hf' b z).2) ow) ?_ fun b z1 z2=>P.env.dx i b (hf' b z1).1 (.inl z2)
  rw [hc]
  exact Ow.past sub Ol Fn o
theorem Ows.out:∀ {ts:List PyData} {vs:List V} {F:AS} {k:Nat} {t:PyData},Ows K O H ts d vs F→ts[k]?=some t →
  ∃ v,∃ F1 F2:AS,vs[k]?=some v∧(∀ b,F1 b→F b)∧(∀ b,F2 b→F b)∧(∀ b,F1 b→¬ F2 b)∧Ow K O H t d v F1∧Ows K O H (ts.eraseIdx k) d (vs.eraseIdx k) F2
 | [],_,_,k,t,_,h=>by simp at h
 | u :: ts,_,F,k,t,h,hk=>by
  obtain ⟨v,r,F1,F2,e,s1,s2,s3,h4,h5⟩:=h
  subst e
  cases k with
  | zero =>
   have:u=t:=by simpa using hk
   subst this
   exact ⟨v,F1,F2,rfl,s1,s2,s3,h4,h5⟩
  | succ k =>
   obtain ⟨w,G1,G2,g1,g2,g3,g4,g5,g6⟩:=Ows.out (k:=k) h5 (by simpa using hk)
   refine ⟨w,G1,U F1 G2,by simpa using g1,fun b z=>s2 b (g2 b z),fun b z=>z.elim (s1 b) fun z=>s2 b (g3 b z),fun b z z2=>?_,g5,v,r.eraseIdx k,F1,G2,rfl,fun b=>.inl,fun b=>.inr,fun b z1 z2=>s3 b z1 (g3 b z2),h4,g6⟩
   rcases z2 with z2 | z2
   ·exact s3 b z2 (g2 b z)
   ·exact g4 b z z2
def Fc (i:Nat) (f:ME):ME:=fun en=>match (en[i]?).join with
 | some (.list _)=>(f en).bind fun r=>match r.1,(r.2[i]?).join with
  | .int n,some (.list ts)=>if -(2 ^ 63)≤n∧n < 2 ^ 63 then (seqIndex? n ts.length).bind fun k=>(ts[k]?).map fun t=>(t,r.2.set i (some (.list (ts.eraseIdx k)))) else none
  | _,_=>none
 | _=>none
theorem Ows.rev:∀ {ts:List PyData} {vs:List V} {F:AS},Ows K O H ts d vs F→Ows K O H ts.reverse d vs.reverse F
 | [],_,_,h=>by rw [show _=[] from h]; rfl
 | t :: ts,_,F,h=>by
  obtain ⟨v,r,F1,F2,e,s1,s2,s3,h4,h5⟩:=h
  subst e
  rw [List.reverse_cons,List.reverse_cons]
  exact Ows.grow (fun _ z=>z) _ (fun b z=>z.elim (s2 b) (s1 b)) (Ows.snoc h5.rev h4 fun b z1 z2=>s3 b z2 z1)
theorem Ows.setAt:∀ {ts:List PyData} {vs:List V} {F F2:AS} {k:Nat} {t:PyData} {v:V},Ows K O H ts d vs F→Ow K O H t d v F2→(∀ b,F b→¬ F2 b)→Ows K O H (ts.set k t) d (vs.set k v) (U F F2)
 | [],_,_,_,_,_,_,h,_,_=>by rw [show _=[] from h]; rfl
 | u :: ts,_,F,F2,k,t,v,h,h2,hd=>by
  obtain ⟨w,r,G1,G2,e,s1,s2,s3,h4,h5⟩:=h
  subst e
  cases k with
  | zero=>exact ⟨v,r,F2,G2,rfl,fun _ z=>.inr z,fun b z=>.inl (s2 b z),fun b z z2=>hd b (s2 b z2) z,h2,h5⟩
  | succ k =>
   refine ⟨w,r.set k v,G1,U G2 F2,rfl,fun b z=>.inl (s1 b z),fun b z=>z.imp (s2 b) id,fun b z z2=>?_,h4,Ows.setAt h5 h2 fun b z=>hd b (s2 b z)⟩
   rcases z2 with z2 | z2
   ·exact s3 b z z2
   ·exact hd b (s1 b z) z2
def gg (i:Nat) (fk fe:ME):MS:=fun en=>(fe en).bind fun r=>match (r.2[i]?).join with
 | some _=>(fk r.2).bind fun q=>match q.1,(q.2[i]?).join with
  | .int n,some (.list ts)=>(ixN ts.length n).map fun k=>.nx (q.2.set i (some (.list (ts.set k r.1))))
  | _,_=>none
 | none=>none
theorem yF {c:Nat} {fk fe:ME} (hd:ds2[i]?=some d) (hz:d≠0) (hc:dn d=c) (h:tFS K J ds ds2 (gg i fk fe) D σ H) :
  jz (tF K p1 ds ds1 c fe) (oB (eE i) (tF K p2 ds1 ds2 d2 fk) lC) D σ H:=by
 obtain ⟨Ox,en,R,fl,e,hf,k⟩:=h
 unfold gg at hf
 obtain ⟨⟨t1,en1⟩,h1,hf⟩:=Option.bind_eq_some_iff.mp hf
 dsimp only at hf
 split at hf
 case h_2=>cases hf
 next tt h0 =>
 obtain ⟨⟨t2,en2⟩,h2,hf⟩:=Option.bind_eq_some_iff.mp hf
 dsimp only at hf
 split at hf
 case h_2=>cases hf
 next n ts h3 =>
 obtain ⟨kk,h4,hf⟩:=Option.map_eq_some_iff.mp hf
 cases hf
 refine ⟨Ox,en,R,t1,en1,e,h1,fun x H1 R1 F1 P1 o1=>?_⟩
 obtain ⟨v0,d0,a1,_,_⟩:=P1.env.at_ i tt (a9 h0)
 refine ⟨v0,a1,?_⟩
 refine ⟨U F1 Ox,en1,R1,.int n,en2,P1.env,h2,fun y H2 R2 F2 P2 o2=>?_⟩
 have P:=P1.trans P2
 have o1':=Ow.over P1.env P2 o1
 obtain ⟨v',d',b1,b2,b3⟩:=P.env.at_ i _ (a9 h3)
 rw [a1] at b1
 cases b1
 rw [hd] at b2
 cases b2
 obtain ⟨l,vs,el,hl,hr,F',hf',ow⟩:=b3.ownL hz
 refine ⟨l,vs,n,kk,el,o2,hl,by rw [ow.len]; exact h4,?_⟩
 have hi:i < en2.length:=(List.getElem?_eq_some_iff.mp (a9 h3)).1
 have Fn:∀ a,F1 a→a≠l:=fun a z z2=>by
  subst z2
  exact P.env.dx i a hr (.inl (.inl z))
 have gG:∀ a,(fun a=>R2 i a∨F1 a) a→R2 i a∨U F1 F2 a:=fun a z=>z.imp id .inl
 have sub:=i5 (i:=i) (R1:=R2) (Ox:=Ox) (G:=fun a=>R2 i a∨F1 a) (F':=NoA) (F:=U F1 F2) gG (fun _ z=>z.elim)
 have Ol:Own R2 (U (U F1 F2) Ox) l:=.inl ⟨i,hr⟩
 have PS:=P.slot (G:=fun a=>R2 i a∨F1 a) (F':=NoA) (o2:=.lst (vs.set kk x)) (t:=.list (ts.set kk t1)) hr hi a1 hd gG (fun _ z=>z.elim) (fun _ _ z=>z) ?_
 ·exact k σ _ _ PS.s
 refine ⟨l,vs.set kk x,el,.inr ⟨hz,aL,.inl hr,U F' F1,fun b z=>?_,?_⟩⟩
 ·rcases z with z | z
  ·exact ⟨.inl (hf' b z).1,(hf' b z).2⟩
  ·exact ⟨.inr z,Fn b z⟩
 ·refine Ows.setAt (Ows.past sub Ol (fun b z=>(hf' b z).2) ow) ?_ fun b z1 z2=>P.env.dx i b (hf' b z1).1 (.inl (.inl z2))
  rw [hc]
  exact Ow.past sub Ol Fn o1'
theorem Ows.get:∀ {ts:List PyData} {vs:List V} {F:AS} {k:Nat} {t:PyData},Ows K O H ts d vs F→ts[k]?=some t→∃ v,vs[k]?=some v∧Ow K O H t d v F
 | [],_,_,k,t,_,h=>by simp at h
 | u :: ts,_,F,k,t,h,hk=>by
  obtain ⟨v,r,F1,F2,e,s1,s2,s3,h4,h5⟩:=h
  subst e
  cases k with
  | zero =>
   have:u=t:=by simpa using hk
   subst this
   exact ⟨v,rfl,Ow.grow (fun _ z=>z) u s1 h4⟩
  | succ k =>
   obtain ⟨w,g1,g2⟩:=Ows.get (k:=k) h5 (by simpa using hk)
   exact ⟨w,by simpa using g1,Ow.grow (fun _ z=>z) t s2 g2⟩
theorem Ows.atI {ts:List PyData} {vs:List V} {F:AS} {n:Int} {t:PyData} (h:Ows K O H ts d vs F) (ht:L2.atI ts n=some t):∃ v,L2.atI vs n=some v∧Ow K O H t d v F:=by
 unfold L2.atI at ht ⊢
 rw [h.len]
 obtain ⟨k,h1,h2⟩:=Option.bind_eq_some_iff.mp ht
 obtain ⟨v,g1,g2⟩:=h.get h2
 exact ⟨v,by rw [h1]; exact g1,g2⟩
def jL (i:Nat) (f:ME):ME:=fun en=>(en[i]?).join.bind fun _=>(f en).bind fun r=>match r.1,(r.2[i]?).join with
 | .int n,some (.list ts)=>(atI ts n).map fun t=>(t,r.2)
 | _,_=>none
theorem Ex (hd:ds1[i]?=some 1) (h:tF K p ds ds1 0 (jL i f) σ H Q):tOp (nU K) (eE i) (tF K p ds ds1 d1 f) σ H Q:=by
 obtain ⟨Ox,en,R,t,en',e,hf,k⟩:=h
 unfold jL at hf
 obtain ⟨t0,h0,hf⟩:=Option.bind_eq_some_iff.mp hf
 obtain ⟨⟨t1,en1⟩,h1,hf⟩:=Option.bind_eq_some_iff.mp hf
 dsimp only at hf
 split at hf
 case h_2=>cases hf
 next n ts h2 =>
 obtain ⟨t',h3,hf⟩:=Option.map_eq_some_iff.mp hf
 cases hf
 obtain ⟨v,d0,a1,_,a3⟩:=e.at_ i _ (a9 h0)
 refine ⟨v,a1,Ox,en,R,.int n,_,e,h1,fun x H1 R1 F P o=>?_⟩
 obtain ⟨v',d',b1,b2,b3⟩:=P.env.at_ i _ (a9 h2)
 rw [a1] at b1
 cases b1
 rw [hd] at b2
 cases b2
 obtain ⟨l,vs,el,hl,hr,F',hf',ow⟩:=b3.ownL (by decide)
 obtain ⟨w,g1,g2⟩:=ow.atI h3
 refine ⟨l,vs,n,w,el,o,SqL.of hl,g1,k w H1 R1 NoA (P.less fun _ z=>z.elim) ?_⟩
 exact Ow.any0 _ (Ow.grow (fun a z=>z.imp id fun z=>z.elim (fun z=>False.elim z) Or.inr) _ (fun _ z=>z) g2)
end
end L2
namespace L2
open PySem PySem.Spec PyProof.Rows
theorem PE.imp {X:Cx} {e:Expr} {t t':TE} (h:PE X e t) (hi:∀ σ H Q,t' σ H Q→t σ H Q):PE X e t':=fun pins s σ H Q I hw=>h pins s σ H Q I (hi _ _ _ hw)
theorem PT.imp {X:Cx} {e:Expr} {t t':TT} (h:PT X e t) (hi:∀ σ H Q,t' σ H Q→t σ H Q):PT X e t':=fun pins s σ H Q I hw=>h pins s σ H Q I (hi _ _ _ hw)
theorem PW.imp {X:Cx} {e:Expr} {t t':TT} (h:PW X e t) (hi:∀ σ H Q,t' σ H Q→t σ H Q):PW X e t':=fun wh pins s σ H Q I hw=>h wh pins s σ H Q I (hi _ _ _ hw)
theorem PA.imp {X:Cx} {e:List Expr} {t t':TA} (h:PA X e t) (hi:∀ σ H Q,t' σ H Q→t σ H Q):PA X e t':=fun pos pins s σ H Q I hw=>h pos pins s σ H Q I (hi _ _ _ hw)
theorem PS.imp {X:Cx} {e:Stmt} {t t':TS} (h:PS X e t) (hi:∀ D σ H,t' D σ H→t D σ H):PS X e t':=fun pins s σ H D I hw=>h pins s σ H D I (hi _ _ _ hw)
theorem PSs.imp {X:Cx} {e:List Stmt} {t t':TS} (h:PSs X e t) (hi:∀ D σ H,t' D σ H→t D σ H):PSs X e t':=fun pins s σ H D I hw=>h pins s σ H D I (hi _ _ _ hw)
theorem PG.imp {X:Cx} {e:Expr} {t t':TG} (h:PG X e t) (hi:∀ v σ H Q,t' v σ H Q→t v σ H Q):PG X e t':=fun pins s σ H v u Q I r hw=>h pins s σ H v u Q I r (hi _ _ _ _ hw)
theorem PGs.imp {X:Cx} {e:List Expr} {t t':TGs} (h:PGs X e t) (hi:∀ v σ H Q,t' v σ H Q→t v σ H Q):PGs X e t':=fun pins s σ H v u Q I r hw=>h pins s σ H v u Q I r (hi _ _ _ _ hw)
theorem PI.imp {X:Cx} {tg e:Expr} {t t':TI} (h:PI X tg e t) (hi:∀ σ H R,t' σ H R→t σ H R):PI X tg e t':=fun pins s σ H R I hw=>h pins s σ H R I (hi _ _ _ hw)
theorem PTs.imp {X:Cx} {e:List Expr} {t t':TT} (h:PTs X e t) (hi:∀ σ H Q,t' σ H Q→t σ H Q):PTs X e t':=fun pins s σ H Q I hw=>h pins s σ H Q I (hi _ _ _ hw)
def aK:Expr→Bool
 | .Starred _ _=>false
 | _=>true
theorem bm {e:Expr} {es:List Expr} {env:Env} (h:aK e=true):starEach (e :: es) env=(false,eval e env) :: starEach es env:=by
 cases e <;> first | rfl | cases h
theorem fP {pos:Pos} {env:Env}:∀ {es:List Expr},es.all aK=true→(backTo pos (starEach es env)).any (·.1)=false
 | [],_=>rfl
 | e :: es,h=>by
  rw [List.all_cons,Bool.and_eq_true] at h
  rw [bm h.1]
  show (false || (backTo pos (starEach es env)).any (·.1))=false
  rw [fP h.2]
  rfl
section
variable {X:Cx} {K:PySem.W.Frag} {p p1 p2 q:Bool} {ds ds0 ds1 ds2 ds' dsi:List Nat} {d d' d1 d2:Nat} {a b c e:Expr} {es:List Expr} {f f1 f2:ME} {m c1 c2:MT} {fa:MA} {sh:Sh} {pos:Pos} {i:Nat} {x:Str}
theorem C0 {x:Str} (hN:X.N[i]?=some x) (hv:Vis X.env.scope x) (h0:ds[i]?=some 0) (hd:(x == ("__debug__" : Str))=false) (hcd:(x == ("__classdict__" : Str))=false):PE X (.Name x pos) (tF K p ds ds 0 (ac i)) :=
 (cS hN hv hd hcd).imp fun _ _ _ h=>Ep h0 (jh (fun _=>rfl) h)
theorem Da {n:Int} {j}:PE X (.Constant (.int n) j pos) (tF K p ds ds 3 (eC (.int n))):=pe_int.imp fun _ _ _ h=>f_c (t:=.int n) (fun _ _ _ _=>rfl) (jh (fun _=>rfl) h)
theorem Eo {n:Bool} {j}:PE X (.Constant (.bool n) j pos) (tF K p ds ds 3 (eC (.bool n))):=pe_bl.imp fun _ _ _ h=>f_c (t:=.bool n) (fun _ _ _ _=>rfl) (jh (fun _=>rfl) h)
theorem C6 {j}:PE X (.Constant .none j pos) (tF K p ds ds 3 (eC .none)):=pe_non.imp fun _ _ _ h=>f_c (t:=.none) (fun _ _ _ _=>rfl) (jh (fun _=>rfl) h)
theorem C3 {n:Str} {j}:PE X (.Constant (.str n) j pos) (tF K p ds ds 3 (eC (.str n))):=pe_str.imp fun _ _ _ h=>f_c (t:=.str n) (fun _ _ _ _=>rfl) (jh (fun _=>rfl) h)
theorem C2 (h:PE X e (tF K p ds ds' d f)) (hd:d'≤d):PE X e (tF K p ds ds' d' f):=h.imp fun _ _ _=>Es hd
theorem El (h:PE X e (tF K p ds0 ds' d f)) (hd:leD ds0 ds=true):PE X e (tF K false ds ds' d f):=h.imp fun _ _ _=>EU hd
theorem Dd (h:PE X e (tF K true ds0 ds0 3 f)) (hd:leD ds0 ds=true):PE X e (tF K p ds ds 3 f):=h.imp fun _ _ _ h=>Ey hd (jh (fun _=>rfl) h)
theorem Eh {op:Operator} {g:D→D→Option D} (ho:OpR X (binaryOp op) (rF2 K g d)) (ha:PE X a (tF K p ds ds1 d1 f1)) (hb:PE X b (tF K p ds1 ds2 d2 f2)):PE X (.BinOp a op b pos) (tF K p ds ds2 d (e2 g f1 f2)) :=
 (DY ho ha hb).imp fun _ _ _ h=>j8 (by rw [Bool.and_self]; exact h)
theorem Ef {op:UnaryOp} {g:D→Option D} (ho:UnR X (unaryOp op) (rF1 K g d)) (ha:PE X a (tF K p ds ds1 d1 f1)):PE X (.UnaryOp op a pos) (tF K p ds ds1 d (e1 g f1)) :=
 (DW ho ha).imp fun _ _ _=>Eu
theorem Dc {op:CmpOp} {g:D→D→Option D} (ho:OpR X (compareOp op) (rF2 K g d)) (ha:PE X a (tF K p ds ds1 d1 f1)) (hb:PE X b (tF K p ds1 ds2 d2 f2)) (hm:behindInMarks op b=false):PE X (.Compare a [op] [b] pos) (tF K p ds ds2 d (e2 g f1 f2)) :=
 (ya ho ha hb hm).imp fun _ _ _ h=>j8 (by rw [Bool.and_self]; exact h)
theorem yA {op:CmpOp} {g:D→D→Option D} (ho:OpR X (compareOp op) (rF2 K g d)) (ha:PE X a (tF K p ds ds1 d1 f1)) (hb:PE X b (tF K p ds1 ds2 d2 f2)) (hm:behindInMarks op b=false):PT X (.Compare a [op] [b] pos) (tFT K p ds ds2 (tV (e2 g f1 f2))) :=
 (xP ho ha hb hm).imp fun σ H Q h=>by
  obtain ⟨Ox,en,R,t,en',e,hf,k⟩:=pH (d:=d) h
  exact j8 (by rw [Bool.and_self]; exact ⟨Ox,en,R,t,en',e,hf,k⟩)
theorem yy (h:PE X e (tF K p ds ds' d f)) (he:∀ whole,isTrue e X.env whole=(do let v ← whole; standAt e.pos; holding [v] (truthy v))):PT X e (tFT K p ds ds' (tV f)):=(BW h he).imp fun _ _ _=>pH
theorem yv (ha:PT X a (tFT K p ds ds1 c1)):PW X (.BoolOp .And [a] pos) (tFT K p ds ds1 c1):=xN ha
theorem CB (ha:PT X a (tFT K p ds ds1 c1)):PW X (.BoolOp .Or [a] pos) (tFT K p ds ds1 c1):=BU ha
theorem CC {rest:List Expr} (ha:PT X a (tFT K p ds ds1 c1)) (hb:PW X (.BoolOp .And (b :: rest) pos) (tFT K p ds1 ds1 c2)):PW X (.BoolOp .And (a :: b :: rest) pos) (tFT K p ds ds1 (cZ c1 c2)):=(BV ha hb).imp fun _ _ _ h=>CG (by rw [Bool.and_self]; exact h)
theorem Ea {rest:List Expr} (ha:PT X a (tFT K p ds ds1 c1)) (hb:PW X (.BoolOp .Or (b :: rest) pos) (tFT K p ds1 ds1 c2)):PW X (.BoolOp .Or (a :: b :: rest) pos) (tFT K p ds ds1 (bOr c1 c2)):=(DS ha hb).imp fun _ _ _ h=>Eb (by rw [Bool.and_self]; exact h)
theorem yz (ha:PT X a (tFT K p ds ds1 c1)):PT X (.UnaryOp .Not a pos) (tFT K p ds ds1 (fV c1)):=(BX ha).imp fun _ _ _=>CD
theorem yB (h:PT X e (tFT K true ds0 ds0 c1)) (hd:leD ds0 ds=true):PT X e (tFT K p ds ds c1):=h.imp fun _ _ _ ⟨Ox,en,R,t,en',e,hf,k⟩=>CF hd ⟨Ox,en,R,t,en',e,hf,fun H' R' P=>k H' R' ⟨P.env,P.fx,P.keep,P.own,P.dom,fun _=>P.pure rfl⟩⟩
theorem C4 {op} (h:PE X a (tF K p ds ds1 d f)):PE X (.BoolOp op [a] pos) (tF K p ds ds1 d f):=B3 h
theorem Dg {rest:List Expr} (ha:PE X a (tF K p ds ds1 d1 f1)) (hb:PE X (.BoolOp .And (b :: rest) pos) (tF K p ds1 ds1 d f2)):PE X (.BoolOp .And (a :: b :: rest) pos) (tF K p ds ds1 d (iV f1 f2)):=(B7 ha hb).imp fun _ _ _ h=>EA (by rw [Bool.and_self]; exact h)
theorem Eg {rest:List Expr} (ha:PE X a (tF K p ds ds1 d1 f1)) (hb:PE X (.BoolOp .Or (b :: rest) pos) (tF K p ds1 ds1 d f2)):PE X (.BoolOp .Or (a :: b :: rest) pos) (tF K p ds ds1 d (eOr f1 f2)):=(DX ha hb).imp fun _ _ _ h=>ES (by rw [Bool.and_self]; exact h)
theorem C5 (ha:PE X a (tF K p ds ds1 d1 f)):PE X (.UnaryOp .Not a pos) (tF K p ds ds1 3 (kB f)):=(B4 ha).imp fun _ _ _=>Ev
theorem Ek (hc:PT X c (tFT K p ds ds1 c1)) (ha:PE X a (tF K p ds1 ds2 d f1)) (hb:PE X b (tF K p ds1 ds2 d f2)):PE X (.IfExp c a b pos) (tF K p ds ds2 d (eIf c1 f1 f2)):=(qC hc ha hb).imp fun _ _ _ h=>ET (by rw [Bool.and_self,Bool.and_self]; exact h)
theorem zo:PA X [] (tFA K p ds ds [] ah):=pa_nil.imp fun _ _ _ ⟨Ox,en,R,t,en',e,hf,k⟩=>Dh ⟨Ox,en,R,t,en',e,hf,fun vs H' R' F P=>k vs H' R' F ⟨P.env,P.fx,P.keep,P.own,P.dom,fun _=>P.pure rfl⟩⟩
theorem rz (ha:PE X e (tF K p ds ds1 d f)) (hr:PA X es (tFA K p ds1 ds2 sh fa)) (hs:aK e=true):PA X (e :: es) (tFA K p ds ds2 (.inl d :: sh) (af f fa)):=(gI ha hr (bm hs)).imp fun _ _ _ h=>zp (by rw [Bool.and_self]; exact h)
theorem rq {x:Str} (hN:X.N[i]?=some x) (hv:Vis X.env.scope x) (hr:PA X es (tFA K p ds ds2 sh fa)) (hd:(x == ("__debug__" : Str))=false) (hcd:(x == ("__classdict__" : Str))=false) :
  PA X (.Name x pos :: es) (tFA K p ds ds2 (.inr i :: sh) (aH i fa)):=(gI (cS hN hv hd hcd) hr (bm rfl)).imp fun _ _ _=>zn
theorem C7 {c:Nat} (h:PA X es (tFA K p ds ds1 sh fa)) (hs:cO c sh=true) (hd:dn d=c) (hz:d≠0):PE X (.List es pos) (tF K p ds ds1 d (aG fa)):=(B5 h).imp fun _ _ _=>Ew hs hd hz
theorem C1 {c:Nat} {x1} (h:PA X es (tFA K p ds ds1 sh fa)) (hs:cO c sh=true) (hd:dn d=c):PE X (.Tuple es x1 pos) (tF K p ds ds1 d (cN fa)):=(B2 h).imp fun _ _ _=>Er hs hd
theorem rn {id:String} {x:Str} {px:Pos} {g:List D→Option D} (hc:CallR X (.builtin id) (rFn K g d)) (hg:Gl X x) (hm:X.mg x=none) (hv:bootBuiltins x=some (.builtin id)) (ha:PA X (e :: es) (tFA K p ds ds1 sh fa)) (hsh:cO 0 sh=true) (hn:x≠"__name__") (hdb:(x == ("__debug__" : Str))=false)
  (he:aK e=true) (hpl:es.all aK=true):PE X (.Call (.Name x px) (e :: es) [] pos) (tF K p ds ds1 d (eN g fa)) :=
 (lZ hc hg hm hv ha hn hdb (bm he) (fP hpl)).imp fun _ _ _=>pV hsh
theorem pU {T:String} {x:Str} {px:Pos} {g:List D→Option D} (hc:CallR X (.type T) (rFn K g d)) (hg:Gl X x) (hm:X.mg x=none) (hv:bootBuiltins x=some (.type T)) (ha:PA X (e :: es) (tFA K p ds ds1 sh fa)) (hsh:cO 0 sh=true) (hn:x≠"__name__") (hdb:(x == ("__debug__" : Str))=false)
  (he:aK e=true) (hpl:es.all aK=true):PE X (.Call (.Name x px) (e :: es) [] pos) (tF K p ds ds1 d (eN g fa)) :=
 (pc hc hg hm hv ha hn hdb (bm he) (fP hpl)).imp fun _ _ _=>pV hsh
theorem Em {k:Nat} {x:Str} {ps:List Str} {px:Pos} {dps:List Nat} {dr:Nat} {F:List D→Option (D × En)} (G:Kn X.prog X.w X.K X.mg X.base k x ps (spF K dps dr F)) (hr:Room k X.A) (hg:Gl X x) (ha:PA X (e :: es) (tFA K p ds ds1 sh fa)) (hns:gK sh=true) (hcd:eY ds1 sh dps=true) (hdb:(x == ("__debug__" : Str))=false)
  (he:aK e=true) (hpl:es.all aK=true) :
  PE X (.Call (.Name x px) (e :: es) [] pos) (tF K p ds ds1 dr (ax F fa)):=(xo G hr hg ha hdb (bm he) (fP hpl)).imp fun _ _ _ h=>Dk hcd (by rw [hns,Bool.and_true]; exact h)
theorem Db {k:Nat} {x:Str} {ps:List Str} {px:Pos} {dps:List Nat} {dr:Nat} {F:List D→Option (D × En)} (G:Kn X.prog X.w X.K X.mg X.base k x ps (spF K dps dr F)) (hr:Room k X.A) (hg:Gl X x) (ha:PA X (e :: es) (tFA K false ds ds1 sh fa)) (hcd:eY ds1 sh dps=true) (hdb:(x == ("__debug__" : Str))=false)
  (he:aK e=true) (hpl:es.all aK=true) :
  PE X (.Call (.Name x px) (e :: es) [] pos) (tF K false ds ds1 dr (ax F fa)):=(xo G hr hg ha hdb (bm he) (fP hpl)).imp fun _ _ _ h=>Dk hcd h
theorem Ej {g:D→D→Option D} (ho:IxR X (rF2 K g d)) (ha:PE X a (tF K p ds ds1 d1 f1)) (hb:PE X b (tF K p ds1 ds2 d2 f2)) (hs:eR b):PE X (.Subscript a b pos) (tF K p ds ds2 d (e2 g f1 f2)) :=
 (nV ho ha hb hs).imp fun _ _ _ h=>j8 (by rw [Bool.and_self]; exact h)
theorem C8 {x:Str} {px:Pos} (hK:X.K=K) (hN:X.N[i]?=some x) (hv:Vis X.env.scope x) (h1:ds1[i]?=some 1) (hb:PE X b (tF K p ds ds1 d1 f)) (hs:eR b) (hd:(x == ("__debug__" : Str))=false) (hcd:(x == ("__classdict__" : Str))=false) :
  PE X (.Subscript (.Name x px) b pos) (tF K p ds ds1 0 (jL i f)):=(nV (EN hK) (cS hN hv hd hcd) hb hs).imp fun _ _ _=>Ex h1
theorem De {c:Nat} {x:Str} {px apos cpos:Pos} (hK:X.K=K) (hN:X.N[i]?=some x) (hv:Vis X.env.scope x) (h1:ds1[i]?=some d) (he:PE X e (tF K false ds ds1 c f)) (hz:d≠0) (hc:dn d=c)
  (hd:(x == ("__debug__" : Str))=false) (hcd:(x == ("__classdict__" : Str))=false)
  (hbase:attributeBase (.Name x px) "append" X.env (eval (.Name x px) X.env)=eval (.Name x px) X.env)
  (hfew:((backTo cpos (starEach [e] X.env)).all (fun x=>!x.1) && (backToKw cpos (keywordEach [] X.env)).all (fun x=>x.1.isSome) && decide (([e]:List Expr).length+([]:List Keyword).length+(if ([]:List Keyword).isEmpty then 0 else 1) < 30))=true)
  (hline:(apos.endLine == cpos.line)=true) (hs:starEach [e] X.env=[(false,eval e X.env)]) (hplain:(backTo cpos (starEach [] X.env)).any (·.1)=false) :
  PE X (.Call (.Attribute (.Name x px) "append" apos) [e] [] cpos) (tF K false ds ds1 3 (bP i f)):=by
 subst hK
 exact (DZ PySem.F.plainAttrs_list PySem.F.slot_list_append PySem.F.type_list_append kQ (cS hN hv hd hcd) (gI he pa_nil hs) hbase hfew hline hs hplain).imp fun _ _ _=>Ez h1 hz hc
def cY:MT:=fun en=>some (true,en)
theorem yx:PTs X [] (tFT K p ds ds cY):=pts_nil.imp fun σ H Q ⟨Ox,en,R,b,en',e,hf,k⟩=>by
 cases hf
 exact k H R (Post.refl e)
theorem yw (hc:PT X c (tFT K p ds ds1 c1)):PTs X [c] (tFT K p ds ds1 c1):=xO hc
theorem Ei {elt tg iter:Expr} {ifs:List Expr} {scope:Scope} {ns:List Str} {js:List (Option Nat)} {fi:MI} {g:MG} {lk:List Nat} {cd:Nat} (B:BlkOkC X scope ns js) (hc:X.calm=true) (hi:PI X tg iter (tFI K p ds ds1 fi))
  (hg:∀ C cl s₀ H₀ fp,PG (aW X scope ns C cl s₀ H₀ fp) tg (tFG K lk dsi dsi g)) (ht:∀ C cl s₀ H₀ fp,PTs (aW X scope ns C cl s₀ H₀ fp) ifs (tFT K true dsi dsi c1)) (he:∀ C cl s₀ H₀ fp,PE (aW X scope ns C cl s₀ H₀ fp) elt (tF K true dsi dsi cd f))
  (hcap:gz ds1 js dsi=true) (hd:dn d=cd) (hz:d≠0) (hlk:lk=gy js 0)
  (hs:∀ x,foldedSetIterable iter X.env x=pure x):PE X (.ListComp elt [⟨tg,iter,ifs,0⟩] scope pos) (tF K p ds ds1 d (eLC true fi g c1 f js)) :=
 (B6 B hc hi hg ht he hs).imp fun _ _ _ h=>Dj hcap hd hz hlk (by rw [Bool.and_true]; exact h)
end
end L2
namespace L2
open PySem PySem.Spec PyProof.Rows
def jB (f:ME) (g:MG):MS:=fun en=>(f en).bind fun r=>(g r.1 r.2).map .nx
section
variable {K:PySem.W.Frag} {p p1 p2 q:Bool} {J:Jd} {ds ds0 ds1 ds2 ds' dsi dps:List Nat} {d d' d1 d2 dr:Nat} {f f1 f2 fk fe:ME} {c1 c2:MT} {fa:MA} {sh:Sh} {i:Nat} {m m1 m2:MS} {g:MG} {lk:List Nat} {σ:St} {H:Hp} {Dn:Ends}
end
section
variable {X:Cx} {K:PySem.W.Frag} {p p1 p2 q:Bool} {J:Jd} {ds ds0 ds1 ds2 ds' dsi dps:List Nat} {d d' d1 d2 dr:Nat} {a b c e tg iter:Expr} {es:List Expr} {st:Stmt} {rest body bodyB:List Stmt} {f f1 f2 fk fe:ME} {c1 c2:MT} {fa:MA} {sh:Sh} {pos px:Pos} {i:Nat} {x:Str} {m m1 m2:MS} {g:MG} {gs:List D→En→Option En} {fi:MI} {lk:List Nat}
theorem yD:PSs X [] (tFS K J ds ds bD):=pss_nil.imp fun _ _ _=>CK
theorem qT (h1:PS X st (tFS K J ds ds1 m1)) (h2:PSs X rest (tFS K J ds1 ds2 m2)):PSs X (st :: rest) (tFS K J ds ds2 (ak m1 m2)):=(qy h1 h2).imp fun _ _ _=>CI
theorem yC (h1:PS X st (tFS K J ds ds1 m1)):PSs X [st] (tFS K J ds ds1 m1):=xQ h1
theorem yM (he:PE X e (tF K false ds ds1 d f)) (hs:swapsWith e none pos.line X.env=pure false):PS X (.Expr e pos) (tFS K J ds ds1 (bQ f)):=(xR he hs).imp fun _ _ _=>CM
theorem yK (he:PE X e (tF K false ds ds1 J.dr f)) (hd:leD J.dsr ds1=true):PS X (.Return (some e) pos) (tFS K J ds ds' (aQ f)):=(BZ he).imp fun _ _ _=>CJ hd
theorem CN (hc:PT X c (tFT K false ds ds1 c1)) (ha:PSs X body (tFS K J ds1 ds2 m1)) (hb:PSs X bodyB (tFS K J ds1 ds2 m2)):PS X (.If c body bodyB pos) (tFS K J ds ds2 (sIf c1 m1 m2)):=(DU hc ha hb).imp fun _ _ _=>Ec
theorem yJ {x:Str} {pos':Pos} (hN:X.N.Nodup) (hi:X.N[i]?=some x) (hx:Loc X.env.scope x) (he:PE X e (tF K false ds ds1 d f)) (hds:ds1.set i d=ds') (hl:i < ds1.length) (hk:i ∉ J.lk)
  (hs:swapsWith e (some (.Name x pos')) pos.line X.env=pure false) (hf:X.fn x=true∨X.env.scope.names.lookup x=some .local) :
  PS X (.Assign [.Name x pos'] e pos) (tFS K J ds ds' (ar i f)):=by
 subst hds
 exact (BY hN hi hx he hs hf).imp fun _ _ _=>pI hl hk
theorem pK {x:Str} {spos pos':Pos} {elt:Expr} {ifs:List Expr} {scope:Scope} {ns:List Str} {js:List (Option Nat)} {cd:Nat} (hN:X.N.Nodup) (hi':X.N[i]?=some x) (hx:X.env.scope.names.lookup x=some .local) (B:BlkOkC X scope ns js) (hc:X.calm=true) (hi:PI X tg iter (tFI K false ds ds1 fi))
  (hg:∀ C cl s₀ H₀ fp,PG (aW X scope ns C cl s₀ H₀ fp) tg (tFG K lk dsi dsi g)) (ht:∀ C cl s₀ H₀ fp,PTs (aW X scope ns C cl s₀ H₀ fp) ifs (tFT K q dsi dsi c1)) (he:∀ C cl s₀ H₀ fp,PE (aW X scope ns C cl s₀ H₀ fp) elt (tF K q dsi dsi cd f))
  (hds:ds1.set i d=ds') (hcap:gz ds1 js dsi=true) (hd:dn d=cd) (hz:d≠0) (hlk:lk=gy js 0) (hl:i < ds1.length) (hk:i ∉ J.lk)
  (hsw:swapsWith (.ListComp elt [⟨tg,iter,ifs,0⟩] scope pos) (some (.Name x pos')) spos.line X.env=pure true)
  (hs:∀ x,foldedSetIterable iter X.env x=pure x):PS X (.Assign [.Name x pos'] (.ListComp elt [⟨tg,iter,ifs,0⟩] scope pos) spos) (tFS K J ds ds' (ar i (eLC q fi g c1 f js))):=by
 subst hds
 exact (oZ hN hi' hx B hc hi hg ht he hsw hs).imp fun D σ H h=>Dj (p:=false) hcap hd hz hlk (pI (p:=false && q) hl hk h)
theorem qW {c:Nat} {x:Str} {spos:Pos} {k:Expr} (hN:X.N[i]?=some x) (hv:Vis X.env.scope x) (he:PE X e (tF K false ds ds1 c fe)) (hk:PE X k (tF K false ds1 ds2 d2 fk)) (h1:ds2[i]?=some d) (hz:d≠0) (hc:dn d=c)
  (hdb:(x == ("__debug__" : Str))=false) (hcd:(x == ("__classdict__" : Str))=false)
  (ha:∀ v,assign (.Subscript (.Name x px) k spos) X.env v=(do
   let ov ← holding [v] (eval (.Name x px) X.env)
   let iv ← holding [v,ov] (eval k X.env)
   standAt spos
   holding [v,ov,iv] (setItem ov iv v)
   release [v,ov,iv] []))
  (hs:swapsWithSole [.Subscript (.Name x px) k spos] e pos.line X.env=pure false) (hw:swappedStores [.Subscript (.Name x px) k spos] e X.env=pure none)
  (h2:(assignEach [.Subscript (.Name x px) k spos] X.env).map (·.2)=[assign (.Subscript (.Name x px) k spos) X.env]) :
  PS X (.Assign [.Subscript (.Name x px) k spos] e pos) (tFS K J ds ds2 (gg i fk fe)) :=
 (lW he (lY (cS hN hv hdb hcd) hk jA ha) hs hw h2).imp fun _ _ _=>yF h1 hz hc
theorem rh {x:Str} (hN:X.N.Nodup) (hi:X.N[i]?=some x) (hx:Loc X.env.scope x) (hds:ds.set i 0=ds') (hl:i < ds.length) (hk:i ∉ lk) (hf:X.fn x=true∨X.env.scope.names.lookup x=some .local) :
  PG X (.Name x pos) (tFG K lk ds ds' (gN i)):=by
 subst hds
 exact (xW hN hi hx hf).imp fun _ _ _ _=>zc hl hk
theorem rf:PGs X [] (fm K lk ds ds gs0):=pgs_nil.imp fun _ _ _ _=>y9
theorem pS (h1:PG X e (tFG K lk ds ds1 g)) (h2:PGs X es (fm K lk ds1 ds2 gs)) (hs:(assignEach (e :: es) X.env).map (·.2)=assign e X.env :: (assignEach es X.env).map (·.2)):PGs X (e :: es) (fm K lk ds ds2 (gsC g gs)):=(lX h1 h2 hs).imp fun _ _ _ _=>rg
theorem kz {g1 g2:MG}:∀ ts en,(∃ en',gsC g1 (gsC g2 gs0) ts en=some en')→ts.length=2:=fun ts en ⟨en',h⟩=>by
 match ts,h with
 | [],h=>cases h
 | [_],h =>
  obtain ⟨_,_,h⟩:=Option.bind_eq_some_iff.mp h
  cases h
 | [_,_],_=>rfl
 | a :: b :: c :: r,h =>
  obtain ⟨_,_,h⟩:=Option.bind_eq_some_iff.mp h
  obtain ⟨_,_,h⟩:=Option.bind_eq_some_iff.mp h
  cases h
theorem zb {k n:Nat} (hK:X.K=K) (hc:X.calm=true) (h:PGs X es (fm K lk ds ds1 gs)) (hl:∀ ts en,(∃ en',gs ts en=some en')→ts.length=n) (hn:(assignEach es X.env).length=n) (hst:(assignEach es X.env).findIdx? (·.1)=none) :
  PG X (.Tuple es k pos) (tFG K lk ds ds1 (gT gs)):=by
 subst hK
 exact (pb hc h hn hst).imp fun _ _ _ _=>CZ hl
theorem yL (hc:X.calm=true) (hi:PI X tg iter (tFI K false ds ds1 fi)) (hg:PG X tg (tFG K J.lk ds1 ds2 g)) (hb:PSs X body (tFS K { J with dsl:=ds1 } ds2 ds1 m)) (hp:PassesOwn (model X.prog X.w) X.A X.env X.xe)
  (hs:∀ x,foldedSetIterable iter X.env x=pure x):PS X (.For tg iter body [] pos) (tFS K J ds ds1 (cR fi g m)):=(B0 hp hc hi hg hb hs).imp fun _ _ _=>CL
theorem pJ (hc:PT X c (tFT K false ds ds1 c1)) (hb:PSs X body (tFS K { J with dsl:=ds } ds1 ds m)) (hp:PassesOwn (model X.prog X.w) X.A X.env X.xe):PS X (.While c body [] pos) (tFS K J ds ds1 (cw c1 m)):=(qz hp hc hb).imp fun _ _ _=>qU
end
def xj:D→Option (List D)
 | .list ts=>some ts
 | .tuple ts=>some ts
 | .str z=>some ((li z).map fun c=>.str (mk1 c))
 | _=>none
def bb (f:ME):MI:=fun en=>(f en).bind fun r=>(xj r.1).map fun ts=>(ts,r.2)
section
variable {K:PySem.W.Frag} {O O1:AS} {H0 H:Hp} {ts:List D} {vs:List V} {a:Addr} {F:AS}
theorem dN {O O1:AS} (h1:∀ a o,H0 a=some o→¬ O a→H a=some o) (h2:∀ a,O1 a→O a∨H0 a=none):Mv O O1 NoA H0 H:=⟨fun a o q z=>z.elim (h1 a o q) fun z=>z.elim,h2⟩
theorem oT (h:FzL K O H0 a vs) (ho:Ows K O H0 ts 0 vs NoA):kJ K O H0 (Itl K a) ts:=fun i H O1 h1 h2 h3=>by
 have sq:=(h.mv (dN h1 h2)).sq
 refine ⟨fun t ht=>?_,fun hl=>⟨vs,sq,by rw [ho.len]; omega⟩⟩
 obtain ⟨v,hv,ov⟩:=ho.get ht
 refine ⟨⟨vs,v,sq,hv⟩,fun x H1 ⟨e,y⟩=>?_⟩
 subst e
 have e2:=y vs sq
 rw [hv] at e2
 cases e2
 exact ⟨fun _ _ q=>q,Ow.mv (dN h1 h2) t (fun _ z=>z) ov⟩
theorem qj (h:FzT K O H0 a vs) (ho:Ows K O H0 ts 0 vs NoA):kJ K O H0 (Itt K a) ts:=fun i H O1 h1 h2 h3=>by
 have sq:=(h.mv (dN h1 h2)).sq
 refine ⟨fun t ht=>?_,fun hl=>⟨vs,sq,by rw [ho.len]; omega⟩⟩
 obtain ⟨v,hv,ov⟩:=ho.get ht
 refine ⟨⟨vs,v,sq,hv⟩,fun x H1 ⟨e,y⟩=>?_⟩
 subst e
 have e2:=y vs sq
 rw [hv] at e2
 cases e2
 exact ⟨fun _ _ q=>q,Ow.mv (dN h1 h2) t (fun _ z=>z) ov⟩
theorem qk {z:Str}:kJ K O H0 (Its z) ((li z).map fun c=>.str (mk1 c)):=fun i H O1 h1 h2 h3=>by
 refine ⟨fun t ht=>?_,fun hl=>?_⟩
 ·rw [List.getElem?_map] at ht
  obtain ⟨c,hc,e⟩:=Option.map_eq_some_iff.mp ht
  have hi:i < z.cps.size:=by
   have:=(List.getElem?_eq_some_iff.mp hc).1
   simpa [li] using this
  have hc':z.cps[i]?=some c:=by
   have:z.cps.toList[i]?=some c:=hc
   simpa using this
  refine ⟨hi,fun x H1 ⟨e1,c',e2,e3⟩=>?_⟩
  subst e1 e e3
  rw [hc'] at e2
  cases e2
  exact ⟨fun _ _ q=>q,rfl⟩
 ·have:z.cps.size=i:=by
   rw [List.length_map] at hl
   simpa [li] using hl
  show z.cps.size≤i
  omega
theorem lK {lo:Int} {n:Nat}:kJ K O H0 (Itr lo n) ((List.range n).map fun k=>.int (lo+(k:Nat))):=fun i H O1 h1 h2 h3=>by
 refine ⟨fun t ht=>?_,fun hl=>?_⟩
 ·rw [List.getElem?_map] at ht
  obtain ⟨c,hc,e⟩:=Option.map_eq_some_iff.mp ht
  have hi:=(List.getElem?_eq_some_iff.mp hc).1
  rw [List.length_range] at hi
  rw [List.getElem?_range hi] at hc
  cases hc
  refine ⟨hi,fun x H1 ⟨e1,e2⟩=>?_⟩
  subst e1 e e2
  exact ⟨fun _ _ q=>q,rfl⟩
 ·rw [List.length_map,List.length_range] at hl
  show n≤i
  omega
def xD (ts:List D):List D:=ts.zipIdx.map fun p=>.tuple [.int (p.2:Nat),p.1]
end
def cf (fa:MA):MI:=fun en=>(fa en).bind fun r=>match r.1 with
 | [.inl (.int j)]=>if -(2 ^ 62)≤j∧j < 2 ^ 62 then some ((List.range j.toNat).map fun k=>.int (0+(k:Nat)),r.2) else none
 | _=>none
def iQ (fa:MA):MI:=fun en=>(fa en).bind fun r=>match r.1 with
 | [.inl (.int i),.inl (.int j)]=>if -(2 ^ 62)≤i∧i < 2 ^ 62∧-(2 ^ 62)≤j∧j < 2 ^ 62 then some ((List.range (j - i).toNat).map fun k=>.int (i+(k:Nat)),r.2) else none
 | _=>none
def Fb (fa:MA):MI:=fun en=>(fa en).bind fun r=>match r.1 with
 | [.inl (.list ts)]=>some (xD ts,r.2)
 | [.inl (.tuple ts)]=>some (xD ts,r.2)
 | _=>none
section
variable {X:Cx} {K:PySem.W.Frag} {p:Bool} {ds ds1:List Nat} {d:Nat} {e tg l:Expr} {f:ME} {fa:MA} {sh:Sh}
theorem CV (hK:X.K=K) (hl:PE X l (tF K p ds ds1 d f)):PI X tg l (tFI K p ds ds1 (bb f)):=by
 subst hK
 intro pins s σ H R I h
 obtain ⟨Ox,en,Rg,ts,en',e,hf,k⟩:=h
 unfold bb at hf
 obtain ⟨⟨t,en1⟩,h1,hf⟩:=Option.bind_eq_some_iff.mp hf
 obtain ⟨ts',h2,hf⟩:=Option.map_eq_some_iff.mp hf
 cases hf
 refine thn (hl pins s σ H (fun v H1=>∃ R1,Post X.K p ds1 Ox σ H en Rg en1 H1 R1 NoA∧Ow X.K (Own R1 Ox) H1 t 0 v NoA) I ⟨Ox,en,Rg,t,en1,e,h1,fun v H1 R1 F P o=>⟨R1,P.less fun _ z=>z.elim,Ow.letgo P (fun _ z=>z) o⟩⟩) fun v s1 ⟨x,H1,I1,r1,R1,P,o⟩=>?_
 cases t with
 | list ts0 =>
  cases h2
  obtain ⟨a,vs,e1,⟨_,fz,ow⟩ | ⟨z,_⟩⟩:=o
  ·subst e1
   cases r1
   obtain ⟨its,rv,pl,hz⟩:=I1.list fz.sq
   refine wpAny_pyIter_list pl.isList ?_
   refine ⟨s1.heap.objs.size,[s1.heap.objs.size],_,_,H1,rfl,I1.kept (t':=s1.toks) fun b o e=>Heap.get?_push_of_some _ e,oU a _,⟨_,Heap.get?_push_size _ rfl,rfl,rfl⟩,fun b hb=>?_,k _ H1 R1 P (oT fz ow)⟩
   have e:b=s1.heap.objs.size:=by simpa using hb
   subst e
   exact I1.fpOk (Nat.le_refl _) (I1.hok.fresh (Nat.le_refl _))
  ·exact absurd rfl z
 | tuple ts0 =>
  cases h2
  obtain ⟨a,vs,e1,⟨_,fz,ow⟩ | ⟨z,_⟩⟩:=o
  ·subst e1
   cases r1
   obtain ⟨its,rv,pl,hz⟩:=I1.tuple fz.sq
   refine wpAny_pyIter_tuple (show s1.heap.IsTuple a its.toArray from pl) ?_
   refine ⟨s1.heap.objs.size,[s1.heap.objs.size],_,_,H1,rfl,I1.kept (t':=s1.toks) fun b o e=>Heap.get?_push_of_some _ e,nP a _,⟨_,Heap.get?_push_size _ rfl,rfl,rfl⟩,fun b hb=>?_,k _ H1 R1 P (qj fz ow)⟩
   have e:b=s1.heap.objs.size:=by simpa using hb
   subst e
   exact I1.fpOk (Nat.le_refl _) (I1.hok.fresh (Nat.le_refl _))
  ·exact absurd rfl z
 | str z =>
  cases h2
  have e1:x=.str z:=o
  subst e1
  obtain ⟨t,rfl⟩:=r1
  have fin:∀ (ty:String) (o:Obj),(ty="str_ascii_iterator"∨ty="str_iterator")→(s1.heap.push o).IsStrIter s1.heap.objs.size ty z t 0→PIE X pins σ tg R (.ref s1.heap.objs.size) { s1 with heap:=s1.heap.push o }:=fun ty o hty st=>by
   refine ⟨s1.heap.objs.size,[s1.heap.objs.size],_,_,H1,rfl,I1.kept (t':=s1.toks) fun b o e=>Heap.get?_push_of_some _ e,qm _ z t ty hty,st,fun b hb=>?_,k _ H1 R1 P qk⟩
   have e:b=s1.heap.objs.size:=by simpa using hb
   subst e
   exact I1.fpOk (Nat.le_refl _) (I1.hok.fresh (Nat.le_refl _))
  cases ha:z.cps.all (· < 128)
  ·exact wpAny_pyIter_wide ha (fin _ _ (.inr rfl) ⟨_,Heap.get?_push_size _ rfl,rfl,rfl⟩)
  ·exact wpAny_pyIter_ascii ha (fin _ _ (.inl rfl) ⟨_,Heap.get?_push_size _ rfl,rfl,rfl⟩)
 | _=>cases h2
theorem yX {a:Expr} {px pos:Pos} (hg:Gl X "range") (hm:X.mg "range"=none) (ha:PA X [a] (tFA K p ds ds1 sh fa)) (hs:aK a=true):PI X tg (.Call (.Name "range" px) [a] [] pos) (tFI K p ds ds1 (cf fa)) :=
 (o9 hg hm ha (bm hs)).imp fun σ H R ⟨Ox,en,Rg,ts,en',e,hf,k⟩=>by
  unfold cf at hf
  obtain ⟨⟨as,en1⟩,h1,hf⟩:=Option.bind_eq_some_iff.mp hf
  refine ⟨Ox,en,Rg,as,en1,e,h1,fun vs H1 R1 F P o=>?_⟩
  dsimp only at hf
  split at hf
  case h_2=>cases hf
  next j =>
  by_cases hj:-(2 ^ 62)≤j∧j < 2 ^ 62
  case neg=>rw [if_neg hj] at hf; cases hf
  rw [if_pos hj] at hf
  cases hf
  obtain ⟨v,r,d,dr,F1,F2,e1,e2,_,_,_,o1,o2⟩:=o
  obtain ⟨_,o2⟩:=o2
  subst e1 o2
  have ev:v=.int j:=o1
  subst ev
  exact ⟨j,rfl,hj.1,hj.2,k _ H1 R1 (P.less fun _ z=>z.elim) lK⟩
theorem yW {a b:Expr} {px pos:Pos} (hg:Gl X "range") (hm:X.mg "range"=none) (ha:PA X [a,b] (tFA K p ds ds1 sh fa)) (hs:aK a=true) (hs2:aK b=true):PI X tg (.Call (.Name "range" px) [a,b] [] pos) (tFI K p ds ds1 (iQ fa)) :=
 (o8 hg hm ha (by rw [bm hs,bm hs2]; rfl) (bm hs2)).imp fun σ H R ⟨Ox,en,Rg,ts,en',e,hf,k⟩=>by
  unfold iQ at hf
  obtain ⟨⟨as,en1⟩,h1,hf⟩:=Option.bind_eq_some_iff.mp hf
  refine ⟨Ox,en,Rg,as,en1,e,h1,fun vs H1 R1 F P o=>?_⟩
  dsimp only at hf
  split at hf
  case h_2=>cases hf
  next i j =>
  by_cases hj:-(2 ^ 62)≤i∧i < 2 ^ 62∧-(2 ^ 62)≤j∧j < 2 ^ 62
  case neg=>rw [if_neg hj] at hf; cases hf
  rw [if_pos hj] at hf
  cases hf
  obtain ⟨v,r,d,dr,F1,F2,e1,e2,_,_,_,o1,v2,r2,d2,dr2,G1,G2,e3,e4,_,_,_,o2,o3⟩:=o
  obtain ⟨_,o3⟩:=o3
  subst e1 e3 o3
  have ev:v=.int i:=o1
  have ev2:v2=.int j:=o2
  subst ev ev2
  exact ⟨i,j,rfl,hj,k _ H1 R1 (P.less fun _ z=>z.elim) lK⟩
end
end L2
namespace L2
open PySem PySem.Spec PyProof.Rows
theorem NewTo.refl {H:Hp}:NewTo H H NoA:=⟨fun _ _ q=>q,fun _ z=>z.elim⟩
theorem OpR.imp {X:Cx} {fn:Value→Value→Sem Value} {r r':R2} (h:OpR X fn r) (hi:∀ x y H Q,r' x y H Q→r x y H Q):OpR X fn r':=fun pins s σ H x y v u Q I rx ry q=>h pins s σ H x y v u Q I rx ry (hi _ _ _ _ q)
theorem OpR.or' {X:Cx} {fn:Value→Value→Sem Value} {r r':R2} (h:OpR X fn r) (h':OpR X fn r'):OpR X fn (fun x y H Q=>r x y H Q∨r' x y H Q):=fun pins s σ H x y v u Q I rx ry q=>q.elim (h pins s σ H x y v u Q I rx ry) (h' pins s σ H x y v u Q I rx ry)
theorem UnR.imp {X:Cx} {fn:Value→Sem Value} {r r':V→Hp→VK→Prop} (h:UnR X fn r) (hi:∀ x H Q,r' x H Q→r x H Q):UnR X fn r':=fun pins s σ H x v Q I rx q=>h pins s σ H x v Q I rx (hi _ _ _ q)
theorem CallR.imp {X:Cx} {fn:Value} {r r':List V→Hp→VK→Prop} (h:CallR X fn r) (hi:∀ x H Q,r' x H Q→r x H Q):CallR X fn r':=fun pins s σ H x v Q I rx q=>h pins s σ H x v Q I rx (hi _ _ _ q)
theorem CallR.or' {X:Cx} {fn:Value} {r r':List V→Hp→VK→Prop} (h:CallR X fn r) (h':CallR X fn r'):CallR X fn (fun x H Q=>r x H Q∨r' x H Q):=fun pins s σ H x v Q I rx q=>q.elim (h pins s σ H x v Q I rx) (h' pins s σ H x v Q I rx)
theorem IxR.imp {X:Cx} {r r':R2} (h:IxR X r) (hi:∀ x y H Q,r' x y H Q→r x y H Q):IxR X r':=fun value slice pins s σ H x y v u Q I rx ry q=>h value slice pins s σ H x y v u Q I rx ry (hi _ _ _ _ q)
section
variable {X:Cx} {K:PySem.W.Frag} {O:AS} {H:Hp} {ts us:List D} {vs ws:List V} {x y:V} {d:Nat} {Q:VK}
theorem cx {l:Addr} (hl:H l=none) (hd:∀ a,O a→∃ o,H a=some o) (h:Ows K O H ts 0 vs NoA):NewTo H (upd H l (.lst vs)) (fun b=>b=l)∧Ow K (U (fun b=>b=l) O) (upd H l (.lst vs)) (.list ts) 1 (.ref l) (fun b=>b=l):=by
 refine ⟨bK hl,l,vs,rfl,.inr ⟨by decide,aL,rfl,NoA,fun _ z=>z.elim,?_⟩⟩
 refine Ows.mv (G:=NoA) ⟨fun a o q _=>(bK (o:=.lst vs) hl).1 a o q,fun a z=>?_⟩ ts (fun _ z=>z) h
 rcases z with z | z
 ·exact .inr (by rw [show a=l from z]; exact hl)
 ·exact .inl z
theorem nu {l:Addr} (hl:H l=none) (hd:∀ a,O a→∃ o,H a=some o) (h:Ows K O H ts 0 vs NoA):NewTo H (upd H l (.tup vs)) NoA∧Ow K (U NoA O) (upd H l (.tup vs)) (.tuple ts) 0 (.ref l) NoA:=by
 refine ⟨⟨(bK hl).1,fun _ z=>z.elim⟩,l,vs,rfl,.inl ⟨rfl,⟨aL,fun z=>?_⟩,?_⟩⟩
 ·rcases z with z | z
  ·exact z
  ·obtain ⟨o,q⟩:=hd l z
   rw [hl] at q
   cases q
 ·refine Ows.mv (G:=NoA) ⟨fun a o q _=>(bK (o:=.tup vs) hl).1 a o q,fun a z=>?_⟩ ts (fun _ z=>z) h
  rcases z with z | z
  ·exact z.elim
  ·exact .inl z
theorem Ows.app:∀ {ts:List D} {vs:List V},Ows K O H ts 0 vs NoA→Ows K O H us 0 ws NoA→Ows K O H (ts++us) 0 (vs++ws) NoA
 | [],_,h,h2=>by rw [show _=[] from h]; exact h2
 | t :: ts,_,h,h2=>by
  obtain ⟨v,r,F1,F2,e,_,_,_,h4,h5⟩:=h
  subst e
  exact ⟨v,r++ws,NoA,NoA,rfl,fun _ z=>z,fun _ z=>z,fun _ z=>z.elim,Ow.any0 t h4,Ows.app (Ows.any0 ts h5) h2⟩
theorem Ows.drop:∀ {ts:List D} {vs:List V} (n:Nat),Ows K O H ts 0 vs NoA→Ows K O H (ts.drop n) 0 (vs.drop n) NoA
 | ts,vs,0,h=>h
 | [],_,n+1,h=>by rw [show _=[] from h]; rfl
 | t :: ts,_,n+1,h=>by
  obtain ⟨v,r,F1,F2,e,_,_,_,h4,h5⟩:=h
  subst e
  exact Ows.drop n (Ows.any0 ts h5)
theorem Ows.take:∀ {ts:List D} {vs:List V} (n:Nat),Ows K O H ts 0 vs NoA→Ows K O H (ts.take n) 0 (vs.take n) NoA
 | ts,vs,0,h=>rfl
 | [],_,n+1,h=>by rw [show _=[] from h]; rfl
 | t :: ts,_,n+1,h=>by
  obtain ⟨v,r,F1,F2,e,_,_,_,h4,h5⟩:=h
  subst e
  exact ⟨v,r.take n,NoA,NoA,rfl,fun _ z=>z,fun _ z=>z,fun _ z=>z.elim,Ow.any0 t h4,Ows.take n (Ows.any0 ts h5)⟩
theorem Ow.lst0 {v:V} (h:Ow K O H (.list ts) 0 v NoA):∃ a vs,v=.ref a∧FzL K O H a vs∧Ows K O H ts 0 vs NoA:=by
 obtain ⟨a,vs,e,⟨_,h1,h2⟩ | ⟨z,_⟩⟩:=h
 ·exact ⟨a,vs,e,h1,h2⟩
 ·exact absurd rfl z
theorem Ow.tup0 {v:V} (h:Ow K O H (.tuple ts) 0 v NoA):∃ a vs,v=.ref a∧FzT K O H a vs∧Ows K O H ts 0 vs NoA:=by
 obtain ⟨a,vs,e,⟨_,h1,h2⟩ | ⟨z,_⟩⟩:=h
 ·exact ⟨a,vs,e,h1,h2⟩
 ·exact absurd rfl z
theorem Ows.one {t:D} (h:Ows K O H [t] 0 vs NoA):∃ v,vs=[v]∧Ow K O H t 0 v NoA:=by
 obtain ⟨v,r,F1,F2,e,_,_,_,h4,h5⟩:=h
 rw [show r=[] from h5] at e
 exact ⟨v,e,Ow.any0 t h4⟩
def aZ:D→D→Option D
 | .int a,.int b=>some (.int (a+b))
 | .str a,.str b=>if a.length+b.length≤sizeLine then some (.str (a++b)) else none
 | _,_=>none
theorem bt:OpR X (binaryOp .Add) (rF2 K aZ 3):=(op_add.or' nW).imp fun x y H Q ⟨O,a,b,t,oa,ob,hd,hg,k⟩=>by
 cases a with
 | int i=>cases b with
  | int j=>cases hg; exact .inl ⟨i,j,oa,ob,k _ H NoA .refl rfl⟩
  | _=>cases hg
 | str i=>cases b with
  | str j =>
   dsimp only [aZ] at hg
   by_cases hl:i.length+j.length≤sizeLine
   ·rw [if_pos hl] at hg; cases hg; exact .inr ⟨i,j,oa,ob,hl,k _ H NoA .refl rfl⟩
   ·rw [if_neg hl] at hg; cases hg
  | _=>cases hg
 | _=>cases hg
def fS (g:Int→Int→Option D):D→D→Option D
 | .int a,.int b=>g a b
 | _,_=>none
theorem cB {g:Int→Int→Option D} {a b t:D} (h:fS g a b=some t):∃ i j,a=.int i∧b=.int j∧g i j=some t:=by
 cases a with
 | int i=>cases b with
  | int j=>exact ⟨i,j,rfl,rfl,h⟩
  | _=>cases h
 | _=>cases h
def dw:D→D→Option D:=fS fun a b=>some (.int (a - b))
theorem iS:OpR X (binaryOp .Sub) (rF2 K dw 3):=op_sub.imp fun x y H Q ⟨O,a,b,t,oa,ob,hd,hg,k⟩=>by
 obtain ⟨i,j,rfl,rfl,h⟩:=cB hg
 cases h
 exact ⟨i,j,oa,ob,k _ H NoA .refl rfl⟩
instance (i j:Int):Decidable (CMul i j):=by unfold CMul; exact inferInstance
instance (i j:Int):Decidable (iB i j):=by unfold iB; exact inferInstance
instance (i j:Int):Decidable (ga i j):=by unfold ga; exact inferInstance
def cy:D→D→Option D:=fS fun a b=>if CMul a b then some (.int (a * b)) else none
theorem ff:OpR X (binaryOp .Mult) (rF2 K cy 3):=op_mul.imp fun x y H Q ⟨O,a,b,t,oa,ob,hd,hg,k⟩=>by
 obtain ⟨i,j,rfl,rfl,h⟩:=cB hg
 by_cases hc:CMul i j
 ·rw [if_pos hc] at h; cases h; exact ⟨i,j,oa,ob,hc,k _ H NoA .refl rfl⟩
 ·rw [if_neg hc] at h; cases h
def eW:D→D→Option D:=fS fun a b=>if iB a b then some (.int (a / b)) else none
theorem nH:OpR X (binaryOp .FloorDiv) (rF2 K eW 3):=op_fdiv.imp fun x y H Q ⟨O,a,b,t,oa,ob,hd,hg,k⟩=>by
 obtain ⟨i,j,rfl,rfl,h⟩:=cB hg
 by_cases hc:iB i j
 ·rw [if_pos hc] at h; cases h; exact ⟨i,j,oa,ob,hc,k _ H NoA .refl rfl⟩
 ·rw [if_neg hc] at h; cases h
def bW:D→D→Option D:=fS fun a b=>if 0 < b then some (.int (a % b)) else none
theorem fT:OpR X (binaryOp .Mod) (rF2 K bW 3):=op_mod.imp fun x y H Q ⟨O,a,b,t,oa,ob,hd,hg,k⟩=>by
 obtain ⟨i,j,rfl,rfl,h⟩:=cB hg
 by_cases hc:0 < j
 ·rw [if_pos hc] at h; cases h; exact ⟨i,j,oa,ob,hc,k _ H NoA .refl rfl⟩
 ·rw [if_neg hc] at h; cases h
def gp:D→D→Option D:=fS fun a b=>if ga a b then some (.int (a ^ b.toNat)) else none
theorem mJ:OpR X (binaryOp .Pow) (rF2 K gp 3):=op_pow.imp fun x y H Q ⟨O,a,b,t,oa,ob,hd,hg,k⟩=>by
 obtain ⟨i,j,rfl,rfl,h⟩:=cB hg
 by_cases hc:ga i j
 ·rw [if_pos hc] at h; cases h; exact ⟨i,j,oa,ob,hc,k _ H NoA .refl rfl⟩
 ·rw [if_neg hc] at h; cases h
def ltI:D→D→Option D:=fS fun a b=>some (.bool (decide (a < b)))
def leI:D→D→Option D:=fS fun a b=>some (.bool (decide (a≤b)))
def gtI:D→D→Option D:=fS fun a b=>some (.bool (decide (b < a)))
def geI:D→D→Option D:=fS fun a b=>some (.bool (decide (b≤a)))
theorem oF:OpR X (compareOp .Lt) (rF2 K ltI 3):=op_lt.imp fun x y H Q ⟨O,a,b,t,oa,ob,hd,hg,k⟩=>by
 obtain ⟨i,j,rfl,rfl,h⟩:=cB hg
 cases h
 exact ⟨i,j,oa,ob,k _ H NoA .refl rfl⟩
theorem xA:OpR X (compareOp .LtE) (rF2 K leI 3):=op_le.imp fun x y H Q ⟨O,a,b,t,oa,ob,hd,hg,k⟩=>by
 obtain ⟨i,j,rfl,rfl,h⟩:=cB hg
 cases h
 exact ⟨i,j,oa,ob,k _ H NoA .refl rfl⟩
theorem Ed:OpR X (compareOp .Gt) (rF2 K gtI 3):=op_gt.imp fun x y H Q ⟨O,a,b,t,oa,ob,hd,hg,k⟩=>by
 obtain ⟨i,j,rfl,rfl,h⟩:=cB hg
 cases h
 exact ⟨i,j,oa,ob,k _ H NoA .refl rfl⟩
theorem xB:OpR X (compareOp .GtE) (rF2 K geI 3):=op_ge.imp fun x y H Q ⟨O,a,b,t,oa,ob,hd,hg,k⟩=>by
 obtain ⟨i,j,rfl,rfl,h⟩:=cB hg
 cases h
 exact ⟨i,j,oa,ob,k _ H NoA .refl rfl⟩
def dh:D→Bool
 | .none=>true
 | _=>false
theorem mC {a:D} {F:AS} (h:Ow K O H a d x F):decide (x=.non)=dh a:=by
 cases a with
 | none=>rw [show x=.non from h]; rfl
 | bool b=>rw [show x=.bl b from h]; rfl
 | int b=>rw [show x=.int b from h]; rfl
 | str b=>rw [show x=.str b from h]; rfl
 | list ts=>obtain ⟨a,vs,e,_⟩:=h; rw [e]; rfl
 | tuple ts=>obtain ⟨a,vs,e,_⟩:=h; rw [e]; rfl
 | dict ts=>obtain ⟨a,vs,e,_⟩:=h; rw [e]; rfl
def isN:D→D→Option D
 | a,.none=>some (.bool (dh a))
 | _,_=>none
def dX:D→D→Option D
 | a,.none=>some (.bool (!dh a))
 | _,_=>none
theorem CQ:OpR X (compareOp .Is) (rF2 K isN 3):=op_isN.imp fun x y H Q ⟨O,a,b,t,oa,ob,hd,hg,k⟩=>by
 cases b with
 | none=>cases hg; exact ⟨ob,by rw [mC oa]; exact k _ H NoA .refl rfl⟩
 | _=>cases hg
theorem kA:OpR X (compareOp .IsNot) (rF2 K dX 3):=op_notN.imp fun x y H Q ⟨O,a,b,t,oa,ob,hd,hg,k⟩=>by
 cases b with
 | none=>cases hg; exact ⟨ob,by rw [mC oa]; exact k _ H NoA .refl rfl⟩
 | _=>cases hg
def Fz:D→D→Option D
 | .str a,.str b=>some (.bool (pD b a))
 | _,_=>none
def E3:D→D→Option D
 | .str a,.str b=>some (.bool (!pD b a))
 | _,_=>none
def ixA:D→D→Option D
 | .list ts,.int n=>atI ts n
 | .tuple ts,.int n=>atI ts n
 | .str z,.int n=>if z.length≤sizeLine then (atI z.cps.toList n).map fun c=>.str (mk1 c) else none
 | _,_=>none
theorem bc (hK:X.K=K):IxR X (rF2 K ixA 0):=by
 subst hK
 refine ix_seq.imp fun x y H Q ⟨O,a,b,t,oa,ob,hd,hg,k⟩=>?_
 cases b with
 | int n =>
  cases a with
  | list ts =>
   obtain ⟨a,vs,e,fz,ow⟩:=oa.lst0
   obtain ⟨v,h1,h2⟩:=ow.atI hg
   exact .inl ⟨a,vs,n,v,e,ob,fz.sq,h1,k v H NoA .refl (by rw [fw]; exact h2)⟩
  | tuple ts =>
   obtain ⟨a,vs,e,fz,ow⟩:=oa.tup0
   obtain ⟨v,h1,h2⟩:=ow.atI hg
   exact .inr (.inl ⟨a,vs,n,v,e,ob,fz.sq,h1,k v H NoA .refl (by rw [fw]; exact h2)⟩)
  | str z =>
   dsimp only [ixA] at hg
   by_cases hl:z.length≤sizeLine
   ·rw [if_pos hl] at hg
    obtain ⟨c,h1,h2⟩:=Option.map_eq_some_iff.mp hg
    cases h2
    exact .inr (.inr ⟨z,n,c,oa,ob,hl,h1,k _ H NoA .refl rfl⟩)
   ·rw [if_neg hl] at hg; cases hg
  | _=>cases hg
 | _=>cases a <;> cases hg
def ixT:D→D→Option D
 | .str z,.int n=>if z.length≤sizeLine then (atI z.cps.toList n).map fun c=>.str (mk1 c) else none
 | _,_=>none
def bE:D→D→Option D
 | .list a,.list b=>if a.length+b.length≤sizeLine then some (.list (a++b)) else none
 | _,_=>none
def FF:D→D→Option D
 | .tuple a,.tuple b=>if a.length+b.length≤sizeLine then some (.tuple (a++b)) else none
 | _,_=>none
end
end L2
namespace L2
open PySem PySem.Spec PyProof.Rows
def grd {α:Type} (c:Prop) [Decidable c] (t:α):Option α:=if c then some t else none
theorem dJ {α:Type} {c:Prop} [Decidable c] {t u:α} (h:grd c t=some u):c∧t=u:=by
 unfold grd at h
 by_cases hc:c
 ·rw [if_pos hc] at h; exact ⟨hc,Option.some.inj h⟩
 ·rw [if_neg hc] at h; cases h
section
variable {X:Cx} {K:PySem.W.Frag} {O:AS} {H:Hp} {ts us:List D} {vs ws:List V} {x y:V} {d:Nat} {Q:VK}
def DR (K:PySem.W.Frag):R2:=fun x y H Q=>∃ l b xs zs,x=.ref l∧y=.ref b∧SqL K H l xs∧SqL K H b zs∧xs.length+zs.length≤sizeLine∧∀ p,H p=none→Q (.ref p) (upd H p (.lst (xs++zs)))
theorem op_catL:OpR X (binaryOp .Add) (DR X.K):=by
 intro pins s σ H x y v u Q I rx ry h
 obtain ⟨l,b,xs,zs,rfl,rfl,hH,hB,hz,q⟩:=h
 cases rx
 cases ry
 obtain ⟨its,r,⟨⟨c1,dd,da1,sl⟩,n,ho,hc,hdd,hda⟩,_⟩:=I.list hH
 obtain ⟨its2,r2,⟨⟨c2,dd2,da2,sl2⟩,n2,ho2,hc2,hdd2,hda2⟩,_⟩:=I.list hB
 have hl:=r.length
 have hl2:=r2.length
 simp only at hc hda hc2 hda2
 subst hc hda hc2 hda2
 refine concat_meets ⟨_,ho,rfl⟩ ⟨_,ho2,rfl⟩ noFill_list_add seq_list_add PySem.F.slot_list_add PySem.F.entry_list_add (PySem.F.args_list_add_2 _ _) (list_addW l b its.toArray its2.toArray n n2 dd dd2 sl sl2 (by simp only [List.size_toArray]; omega)) ⟨ho,ho2,?_⟩
 have ea:its.toArray++its2.toArray=(its++its2).toArray:=by simp
 rw [ea]
 exact ⟨.ref _,_,I.lnew (t':=s.toks) (r.append r2) (by rw [List.length_append]; omega),rfl,q _ I.fresh⟩
theorem bL (hK:X.K=K):OpR X (binaryOp .Add) (rF2 K bE 1):=by
 subst hK
 refine op_catL.imp fun x y H Q ⟨O,a,b,t,oa,ob,hd,hg,k⟩=>?_
 cases a with
 | list ts=>cases b with
  | list us =>
   dsimp only [bE] at hg
   by_cases hl:ts.length+us.length≤sizeLine
   case neg=>rw [if_neg hl] at hg; cases hg
   rw [if_pos hl] at hg
   cases hg
   obtain ⟨a,vs,e1,f1,w1⟩:=oa.lst0
   obtain ⟨b,ws,e2,f2,w2⟩:=ob.lst0
   refine ⟨a,b,vs,ws,e1,e2,f1.sq,f2.sq,by rw [w1.len,w2.len]; exact hl,fun p hp=>?_⟩
   obtain ⟨n1,n2⟩:=cx hp hd (w1.app w2)
   exact k _ _ _ n1 n2
  | _=>cases hg
 | _=>cases hg
def Fy:D→D→Option D
 | .list ts,.int k=>grd (-(2 ^ 63)≤k∧k < 2 ^ 63∧ts.length * k.toNat≤sizeLine) (.list (List.replicate k.toNat ts).flatten)
 | _,_=>none
def Fx:D→D→Option D
 | .str z,.int k=>grd (z.length≤4000∧-(2 ^ 63)≤k∧k≤4000) (.str (Txt.mul z k))
 | _,_=>none
def ig:D→Option D
 | .int i=>some (.int (-i))
 | _=>none
theorem iT:UnR X (unaryOp .USub) (rF1 K ig 3):=un_neg.imp fun x H Q ⟨O,a,t,oa,hd,hg,k⟩=>by
 cases a with
 | int i=>cases hg; exact ⟨i,oa,k _ H NoA .refl rfl⟩
 | _=>cases hg
def bd:List D→Option D
 | [.list ts]=>some (.int ts.length)
 | [.tuple ts]=>some (.int ts.length)
 | [.str z]=>grd (z.length≤sizeLine) (.int z.length)
 | _=>none
theorem bB (hK:X.K=K):CallR X (.builtin "len") (rFn K bd 3):=(EL hK).imp fun xs H Q ⟨O,as,t,oa,hd,hg,k⟩=>by
 match as,hg with
 | [.list ts],hg =>
  cases hg
  obtain ⟨v,rfl,o⟩:=oa.one
  obtain ⟨a,vs,rfl,fz,w⟩:=o.lst0
  exact ⟨_,_,rfl,.inl ⟨vs,fz.sq,rfl⟩,by rw [w.len]; exact k _ H NoA .refl rfl⟩
 | [.tuple ts],hg =>
  cases hg
  obtain ⟨v,rfl,o⟩:=oa.one
  obtain ⟨a,vs,rfl,fz,w⟩:=o.tup0
  exact ⟨_,_,rfl,.inr ⟨vs,fz.sq,rfl⟩,by rw [w.len]; exact k _ H NoA .refl rfl⟩
 | [.str z],hg =>
  obtain ⟨c,rfl⟩:=dJ hg
  obtain ⟨v,rfl,o⟩:=oa.one
  exact ⟨_,_,rfl,by rw [show v=.str z from o]; exact ⟨c,rfl⟩,k _ H NoA .refl rfl⟩
def ir:List D→Option D
 | [.int i]=>some (.int (if i < 0 then -i else i))
 | _=>none
theorem pN:CallR X (.builtin "abs") (rFn K ir 3):=call_abs.imp fun xs H Q ⟨O,as,t,oa,hd,hg,k⟩=>by
 match as,hg with
 | [.int i],hg =>
  cases hg
  obtain ⟨v,rfl,o⟩:=oa.one
  exact ⟨i,by rw [show v=.int i from o],k _ H NoA .refl rfl⟩
def Fm:List D→Option D
 | [.int i,.int j]=>some (.int (if j > i then j else i))
 | _=>none
def Fk:List D→Option D
 | [.int i,.int j]=>some (.int (if j < i then j else i))
 | _=>none
def gw:List D→Option D
 | [.int i]=>some (.int i)
 | [.bool b]=>some (.int (if b then 1 else 0))
 | _=>none
theorem pM:CallR X (.type "int") (rFn K gw 3):=call_int1.imp fun xs H Q ⟨O,as,t,oa,hd,hg,k⟩=>by
 match as,hg with
 | [.int i],hg =>
  cases hg
  obtain ⟨v,rfl,o⟩:=oa.one
  exact .inl ⟨i,by rw [show v=.int i from o],k _ H NoA .refl rfl⟩
 | [.bool i],hg =>
  cases hg
  obtain ⟨v,rfl,o⟩:=oa.one
  exact .inr ⟨i,by rw [show v=.bl i from o],k _ H NoA .refl rfl⟩
def jd (z:Str):List D:=(li z).map fun c=>.str (mk1 c)
theorem l6 {z:Str}:Ows K O H (jd z) 0 (df z) NoA:=by
 unfold jd df
 show Ows K O H ((li z).map fun c=>.str (mk1 c)) 0 ((li z).map sgn) NoA
 generalize li z=l
 induction l with
 | nil=>rfl
 | cons c r ih=>exact ⟨sgn c,r.map sgn,NoA,NoA,rfl,fun _ z=>z,fun _ z=>z,fun _ z=>z.elim,rfl,ih⟩
def eT:List D→Option D
 | [.list ts]=>some (.list ts)
 | [.tuple ts]=>some (.list ts)
 | [.str z]=>grd (z.cps.size≤sizeLine) (.list (jd z))
 | _=>none
theorem fL (hK:X.K=K) (hc:X.calm=true):CallR X (.type "list") (rFn K eT 1):=((yq hK).or' (kG hc)).imp fun xs H Q ⟨O,as,t,oa,hd,hg,k⟩=>by
 match as,hg with
 | [.list ts],hg =>
  cases hg
  obtain ⟨v,rfl,o⟩:=oa.one
  obtain ⟨a,vs,rfl,fz,w⟩:=o.lst0
  exact .inl ⟨a,vs,rfl,.inl fz.sq,fun l hl=>k _ _ _ (cx hl hd w).1 (cx hl hd w).2⟩
 | [.tuple ts],hg =>
  cases hg
  obtain ⟨v,rfl,o⟩:=oa.one
  obtain ⟨a,vs,rfl,fz,w⟩:=o.tup0
  exact .inl ⟨a,vs,rfl,.inr fz.sq,fun l hl=>k _ _ _ (cx hl hd w).1 (cx hl hd w).2⟩
 | [.str z],hg =>
  obtain ⟨c,rfl⟩:=dJ hg
  obtain ⟨v,rfl,o⟩:=oa.one
  exact .inr ⟨z,by rw [show v=.str z from o],c,fun l hl=>k _ _ _ (cx (K:=K) hl hd l6).1 (cx hl hd l6).2⟩
def jy:List D→Option D
 | [.list ts]=>some (.tuple ts)
 | [.tuple ts]=>some (.tuple ts)
 | _=>none
theorem mH (hK:X.K=K):CallR X (.type "tuple") (rFn K jy 0):=(Cm hK).imp fun xs H Q ⟨O,as,t,oa,hd,hg,k⟩=>by
 match as,hg with
 | [.list ts],hg =>
  cases hg
  obtain ⟨v,rfl,o⟩:=oa.one
  obtain ⟨a,vs,rfl,fz,w⟩:=o.lst0
  exact ⟨a,vs,rfl,.inl ⟨fz.sq,fun l hl=>k _ _ _ (nu hl hd w).1 (nu hl hd w).2⟩⟩
 | [.tuple ts],hg =>
  cases hg
  obtain ⟨v,rfl,o⟩:=oa.one
  obtain ⟨a,vs,rfl,fz,w⟩:=o.tup0
  exact ⟨a,vs,rfl,.inr ⟨fz.sq,k _ H NoA .refl (by rw [fw]; exact o)⟩⟩
def fM:List D→Option (List Bool)
 | []=>some []
 | .bool b :: r=>(fM r).map (b :: ·)
 | _ :: _=>none
theorem kO:∀ {ts:List D} {vs:List V} {bs:List Bool},Ows K O H ts 0 vs NoA→fM ts=some bs→vs=bs.map V.bl
 | [],_,_,h,hb=>by cases hb; exact h
 | .bool b :: r,_,_,h,hb=>by
  obtain ⟨v,w,F1,F2,e,_,_,_,h4,h5⟩:=h
  obtain ⟨bs',h6,h7⟩:=Option.map_eq_some_iff.mp hb
  subst e h7
  rw [show v=.bl b from h4,kO (Ows.any0 r h5) h6]
  rfl
 | .none :: _,_,_,_,hb=>by cases hb
 | .int _ :: _,_,_,_,hb=>by cases hb
 | .str _ :: _,_,_,_,hb=>by cases hb
 | .list _ :: _,_,_,_,hb=>by cases hb
 | .tuple _ :: _,_,_,_,hb=>by cases hb
 | .dict _ :: _,_,_,_,hb=>by cases hb
def iZ:List D→Option D
 | [.list ts]=>(fM ts).map fun bs=>.bool (bs.all id)
 | _=>none
theorem mK (hK:X.K=K) (hc:X.calm=true):CallR X (.builtin "all") (rFn K iZ 3):=(EQ hK hc).imp fun xs H Q ⟨O,as,t,oa,hd,hg,k⟩=>by
 match as,hg with
 | [.list ts],hg =>
  obtain ⟨bs,h1,rfl⟩:=Option.map_eq_some_iff.mp hg
  obtain ⟨v,rfl,o⟩:=oa.one
  obtain ⟨a,vs,rfl,fz,w⟩:=o.lst0
  have e:=kO w h1
  subst e
  exact ⟨a,bs,rfl,fz.sq,k _ H NoA .refl rfl⟩
def tyN:D→String
 | .none=>"NoneType" | .bool _=>"bool" | .int _=>"int" | .str _=>"str" | .list _=>"list" | .tuple _=>"tuple" | .dict _=>"dict"
def aT (n T:String):Bool:=n == T || (n == "bool" && T == "int")
theorem nB {T:String} (hT:T∈["int", "bool", "str", "list", "tuple", "dict"]) (a:D):PySem.W.kitOne K (.type (tyN a)) (.type T)=some (aT (tyN a) T):=by
 simp only [List.mem_cons,List.not_mem_nil,or_false] at hT
 rcases hT with rfl | rfl | rfl | rfl | rfl | rfl <;> cases a <;> rfl
def DQ (K:PySem.W.Frag):List V→Hp→VK→Prop:=fun xs H Q=>∃ x T,∃ (O:AS) (a:D),xs=[x,.ty T]∧Ow K O H a 0 x NoA∧T∈["int", "bool", "str", "list", "tuple", "dict"]∧Q (.bl (aT (tyN a) T)) H
theorem p8:CallR X (.builtin "isinstance") (DQ X.K):=by
 intro pins s σ H xs us Q I r h
 obtain ⟨x,T,O,a,rfl,oa,hT,q⟩:=h
 have base:∀ ty,TyOf X.K H x (.type ty)→tyN a=ty→wpAny (model X.prog X.w) X.A (call (.builtin "isinstance") us) (EP X pins σ Q) X.xe s:=fun ty h1 h2=>by
  refine rC pins s σ H _ us Q I r ⟨x,.type ty,T,aT (tyN a) T,rfl,h1,?_,q⟩
  rw [← h2]
  exact nB hT a
 cases a with
 | none=>exact base _ (by rw [show x=.non from oa]; exact .non) rfl
 | bool b=>exact base _ (by rw [show x=.bl b from oa]; exact .bl b) rfl
 | int b=>exact base _ (by rw [show x=.int b from oa]; exact .int b) rfl
 | str b=>exact base _ (by rw [show x=.str b from oa]; exact .str b) rfl
 | tuple ts =>
  obtain ⟨p,vs,rfl,fz,w⟩:=oa.tup0
  exact base _ (.tup fz.1) rfl
 | dict ts =>
  obtain ⟨p,vs,rfl,⟨_,h1,_⟩ | ⟨_,h1,_⟩⟩:=oa
  ·exact base _ (.dK h1) rfl
  ·exact base _ (.dK h1) rfl
 | list ts =>
  obtain ⟨p,vs,rfl,fz,w⟩:=oa.lst0
  obtain ⟨u,u2,rfl,r1,r2⟩:=r.two
  cases r1
  cases r2
  obtain ⟨its,rv,pl,_⟩:=I.list fz.sq
  have e:=nB (K:=X.K) hT (.list ts)
  obtain ⟨o,n,h1,h2,_⟩:=pl
  exact PySem.W.kia_one PySem.W.kitx_list I.kIn ⟨o,h1,h2⟩ e (fun z=>nomatch z) fun tk=>⟨.bl _,H,I.tok tk,rfl,q⟩
end
def aJ (T:String):D→Option D:=fun a=>some (.bool (aT (tyN a) T))
section
variable {X:Cx} {K:PySem.W.Frag} {p:Bool} {ds ds1:List Nat} {d1:Nat} {e:Expr} {f:ME}
theorem C9 {T:Str} {n:String} {px pt pos:Pos} (hK:X.K=K) (hg:Gl X "isinstance") (hm:X.mg "isinstance"=none) (hgT:Gl X T) (hmT:X.mg T=none) (hbT:bootBuiltins T=some (.type n)) (hT:n∈["int", "bool", "str", "list", "tuple", "dict"]) (he:PE X e (tF K p ds ds1 d1 f))
  (hnT:T≠"__name__") (hdT:(T == ("__debug__" : Str))=false)
  (hs1:starEach [e,.Name T pt] X.env=(false,eval e X.env) :: starEach [.Name T pt] X.env) (hs2:starEach [.Name T pt] X.env=(false,eval (.Name T pt) X.env) :: starEach [] X.env) (hpl:(backTo pos (starEach [.Name T pt] X.env)).any (·.1)=false) :
  PE X (.Call (.Name "isinstance" px) [e,.Name T pt] [] pos) (tF K p ds ds1 3 (e1 (aJ n) f)):=by
 subst hK
 refine (lZ p8 hg hm boot_isinstance (gI he (gI (yc (v:=.ty n) hgT hmT hbT rfl hnT hdT) pa_nil hs2) hs1) (by decide) (by decide) hs1 hpl).imp fun σ H Q h=>?_
 obtain ⟨Ox,en,R,t,en',e,hf,k⟩:=h
 unfold e1 at hf
 obtain ⟨⟨t1,en1⟩,h1,hf⟩:=Option.bind_eq_some_iff.mp hf
 obtain ⟨t',h3,hf⟩:=Option.map_eq_some_iff.mp hf
 cases hf
 cases h3
 refine ⟨Ox,en,R,t1,en1,e,h1,fun v H' R' F P o=>?_⟩
 exact ⟨v,n,Own R' Ox,t1,rfl,Ow.letgo P (fun _ z=>z) o,hT,k _ H' R' NoA (P.less fun _ z=>z.elim) rfl⟩
end
end L2
namespace L2
open PySem PySem.Spec PyProof.Rows
mutual
def peq:D→D→Bool
 | .none,.none=>true
 | .bool a,.bool b=>a == b
 | .bool a,.int b=>(if a then (1:Int) else 0) == b
 | .int a,.bool b=>a == (if b then (1:Int) else 0)
 | .int a,.int b=>a == b
 | .str a,.str b=>a == b
 | .list a,.list b=>bp a b
 | .tuple a,.tuple b=>bp a b
 | _,_=>false
def bp:List D→List D→Bool
 | [],[]=>true
 | a :: r,b :: s=>peq a b && bp r s
 | _,_=>false
end
mutual
def aw:D→Bool
 | .dict _=>false
 | .list ts=>aE ts
 | .tuple ts=>aE ts
 | _=>true
def aE:List D→Bool
 | []=>true
 | t :: r=>aw t && aE r
end
mutual
theorem jH:∀ a:D,aw a=true→peq a a=true
 | .none,_=>rfl
 | .bool b,_=>by cases b <;> rfl
 | .int i,_=>by simp [peq]
 | .str i,_=>by simp [peq]
 | .list ts,h=>by simp only [peq]; exact iM ts (by simpa [aw] using h)
 | .tuple ts,h=>by simp only [peq]; exact iM ts (by simpa [aw] using h)
 | .dict _,h=>by simp [aw] at h
theorem iM:∀ a:List D,aE a=true→bp a a=true
 | [],_=>rfl
 | t :: r,h=>by
  have h':aw t=true∧aE r=true:=by simpa [aE] using h
  simp only [bp,jH t h'.1,iM r h'.2,Bool.and_self]
end
mutual
def cW:D→Nat
 | .list ts=>bj ts+1
 | .tuple ts=>bj ts+1
 | _=>0
def bj:List D→Nat
 | []=>0
 | t :: r=>max (cW t) (bj r)
end
theorem iW:∀ {ts:List D} {i:Nat} {t:D},ts[i]?=some t→cW t≤bj ts
 | [],_,_,h=>by simp at h
 | u :: r,i,t,h=>by
  simp only [bj]
  cases i with
  | zero=>simp at h; subst h; exact Nat.le_max_left _ _
  | succ i=>exact Nat.le_trans (iW (by simpa using h)) (Nat.le_max_right _ _)
theorem dy:∀ {ts:List D} {i:Nat} {t:D},aE ts=true→ts[i]?=some t→aw t=true
 | [],_,_,_,h=>by simp at h
 | u :: r,i,t,hn,h=>by
  have h':aw u=true∧aE r=true:=by simpa [aE] using hn
  cases i with
  | zero=>simp at h; subst h; exact h'.1
  | succ i=>exact dy h'.2 (by simpa using h)
theorem jE:∀ {a b:List D},a.length≠b.length→bp a b=false
 | [],[],h=>absurd rfl h
 | [],_ :: _,_=>rfl
 | _ :: _,[],_=>rfl
 | a :: r,b :: s,h=>by
  simp only [bp,jE (a:=r) (b:=s) (fun z=>h (by rw [List.length_cons,List.length_cons,z])),Bool.and_false]
def eAt (a b:List D) (j:Nat):Bool:=match a[j]?,b[j]? with
 | some x,some y=>peq x y
 | _,_=>true
theorem kI (n:Nat) (f:Nat→Bool):(List.range (n+1)).all f=(f 0 && (List.range n).all fun j=>f (j+1)):=by
 rw [List.range_succ_eq_map,List.all_cons,List.all_map]
 rfl
theorem jG:∀ {a b:List D},a.length=b.length→(List.range a.length).all (eAt a b)=bp a b
 | [],[],_=>rfl
 | a :: r,b :: s,h=>by
  rw [List.length_cons,kI]
  have e:(List.range r.length).all (fun j=>eAt (a :: r) (b :: s) (j+1))=(List.range r.length).all (eAt r s):=by
   congr 1
  rw [e,jG (by simpa using h)]
  rfl
 | [],_ :: _,h=>by simp at h
 | _ :: _,[],h=>by simp at h
section
open PySem.SeqAt
variable {X:Cx} {pins:List (Addr × Obj)} {σ:St} {H:Hp} {s:Shared} {O:AS}
theorem xp {p:Addr} {vs ws:List V} (I:Inv X pins σ H s) (h:SqL X.K H p vs) (g:SqT X.K H p ws):False:=by
 obtain ⟨its,_,p1,_⟩:=I.list h
 obtain ⟨its2,_,p2,_⟩:=I.tuple g
 exact ne_of_list_tuple p1.isList (show s.heap.IsTuple p its2.toArray from p2) rfl
theorem D2 {p:Addr} {vs:List V} {ks:List (Key × V)} (I:Inv X pins σ H s) (h:SqL X.K H p vs) (g:H p=some (.dK ks)):False:=by
 obtain ⟨its,_,⟨o,n,e1,e2,_⟩,_⟩:=I.list h
 obtain ⟨_,_,_,_,o',_,_,g1,g2,_⟩:=kd I.hok g
 rw [e1] at g1
 cases g1
 rw [g2.1] at e2
 simp at e2
mutual
theorem Ow.inj (I:Inv X pins σ H s):∀ (a b:D) {x:V},Ow X.K O H a 0 x NoA→Ow X.K O H b 0 x NoA→aw a=true→a=b
 | .none,b,_,h,g,_=>by
  cases (show _=_ from h)
  cases b with
  | none=>rfl
  | list ts=>obtain ⟨_,_,z,_⟩:=g; cases z
  | tuple ts=>obtain ⟨_,_,z,_⟩:=g; cases z
  | dict ts=>obtain ⟨_,_,z,_⟩:=g; cases z
  | bool c=>cases (show V.non=V.bl c from g)
  | int c=>cases (show V.non=V.int c from g)
  | str c=>cases (show V.non=V.str c from g)
 | .bool c,b,_,h,g,_=>by
  cases (show _=_ from h)
  cases b with
  | none=>cases (show V.bl c=V.non from g)
  | list ts=>obtain ⟨_,_,z,_⟩:=g; cases z
  | tuple ts=>obtain ⟨_,_,z,_⟩:=g; cases z
  | dict ts=>obtain ⟨_,_,z,_⟩:=g; cases z
  | bool c'=>cases (show V.bl c=V.bl c' from g); rfl
  | int c'=>cases (show V.bl c=V.int c' from g)
  | str c'=>cases (show V.bl c=V.str c' from g)
 | .int c,b,_,h,g,_=>by
  cases (show _=_ from h)
  cases b with
  | none=>cases (show V.int c=V.non from g)
  | list ts=>obtain ⟨_,_,z,_⟩:=g; cases z
  | tuple ts=>obtain ⟨_,_,z,_⟩:=g; cases z
  | dict ts=>obtain ⟨_,_,z,_⟩:=g; cases z
  | bool c'=>cases (show V.int c=V.bl c' from g)
  | int c'=>cases (show V.int c=V.int c' from g); rfl
  | str c'=>cases (show V.int c=V.str c' from g)
 | .str c,b,_,h,g,_=>by
  cases (show _=_ from h)
  cases b with
  | none=>cases (show V.str c=V.non from g)
  | list ts=>obtain ⟨_,_,z,_⟩:=g; cases z
  | tuple ts=>obtain ⟨_,_,z,_⟩:=g; cases z
  | dict ts=>obtain ⟨_,_,z,_⟩:=g; cases z
  | bool c'=>cases (show V.str c=V.bl c' from g)
  | int c'=>cases (show V.str c=V.int c' from g)
  | str c'=>cases (show V.str c=V.str c' from g); rfl
 | .list ts,b,_,h,g,hn=>by
  obtain ⟨p,vs,rfl,fz,w⟩:=h.lst0
  cases b with
  | none=>cases (show V.ref p=V.non from g)
  | bool c'=>cases (show V.ref p=V.bl c' from g)
  | int c'=>cases (show V.ref p=V.int c' from g)
  | str c'=>cases (show V.ref p=V.str c' from g)
  | list us =>
   obtain ⟨p',vs',e,fz',w'⟩:=g.lst0
   cases e
   have:=I.list_inj fz.sq fz'.sq
   subst this
   rw [Ows.inj I ts us w w' (by simpa [aw] using hn)]
  | tuple us =>
   obtain ⟨p',vs',e,fz',w'⟩:=g.tup0
   cases e
   exact (xp I fz.sq fz'.sq).elim
  | dict us =>
   obtain ⟨p',vs',e,⟨_,g1,_⟩ | ⟨z,_⟩⟩:=g
   ·cases e
    exact (D2 I fz.sq g1).elim
   ·exact absurd rfl z
 | .tuple ts,b,_,h,g,hn=>by
  obtain ⟨p,vs,rfl,fz,w⟩:=h.tup0
  cases b with
  | none=>cases (show V.ref p=V.non from g)
  | bool c'=>cases (show V.ref p=V.bl c' from g)
  | int c'=>cases (show V.ref p=V.int c' from g)
  | str c'=>cases (show V.ref p=V.str c' from g)
  | tuple us =>
   obtain ⟨p',vs',e,fz',w'⟩:=g.tup0
   cases e
   have:=fz.1.symm.trans fz'.1
   cases this
   rw [Ows.inj I ts us w w' (by simpa [aw] using hn)]
  | list us =>
   obtain ⟨p',vs',e,fz',w'⟩:=g.lst0
   cases e
   exact (xp I fz'.sq fz.sq).elim
  | dict us =>
   obtain ⟨p',vs',e,⟨_,g1,_⟩ | ⟨z,_⟩⟩:=g
   ·cases e
    rw [fz.1] at g1
    cases g1
   ·exact absurd rfl z
 | .dict _,_,_,_,_,hn=>by simp [aw] at hn
theorem Ows.inj (I:Inv X pins σ H s):∀ (a b:List D) {x:List V},Ows X.K O H a 0 x NoA→Ows X.K O H b 0 x NoA→aE a=true→a=b
 | [],b,_,h,g,_=>by
  cases (show _=_ from h)
  cases b with
  | nil=>rfl
  | cons u us=>obtain ⟨_,_,_,_,e,_⟩:=g; cases e
 | t :: ts,b,_,h,g,hn=>by
  obtain ⟨v,r,F1,F2,e,_,_,_,h4,h5⟩:=h
  subst e
  have hn':aw t=true∧aE ts=true:=by simpa [aE] using hn
  cases b with
  | nil=>cases (show v :: r=[] from g)
  | cons u us =>
   obtain ⟨v',r',G1,G2,e,_,_,_,g4,g5⟩:=g
   cases e
   rw [Ow.inj I t u (Ow.any0 t h4) (Ow.any0 u g4) hn'.1,Ows.inj I ts us (Ows.any0 ts h5) (Ows.any0 us g5) hn'.2]
end
theorem mB {A:Around} {ts us:List D} {vs ws:List V} {its its2:List Value} (w:Ows X.K O H ts 0 vs NoA) (w2:Ows X.K O H us 0 ws NoA) (rv:Vals vs its) (rv2:Vals ws its2)
  (ih:∀ (j:Nat) a b x y v u,ts[j]?=some a→us[j]?=some b→Ow X.K O H a 0 x NoA→Ow X.K O H b 0 y NoA→RelV x v→RelV y u→EqAt A s v u (peq a b)) :
  ∀ j (h1:j < its.toArray.size) (h2:j < its2.toArray.size),EqAt A s its.toArray[j] its2.toArray[j] (eAt ts us j):=fun j h1 h2=>by
 have h1':j < its.length:=by simpa using h1
 have h2':j < its2.length:=by simpa using h2
 have l1:=rv.length
 have l2:=rv2.length
 have m1:=w.len
 have m2:=w2.len
 have e1:ts[j]?=some ts[j]:=List.getElem?_eq_getElem (by omega)
 have e2:us[j]?=some us[j]:=List.getElem?_eq_getElem (by omega)
 obtain ⟨x,g1,o1⟩:=w.get e1
 obtain ⟨y,g2,o2⟩:=w2.get e2
 obtain ⟨u1,f1,q1⟩:=rv.get g1
 obtain ⟨u2,f2,q2⟩:=rv2.get g2
 have z:=ih j _ _ x y u1 u2 e1 e2 o1 o2 q1 q2
 rw [List.getElem?_eq_getElem h1'] at f1
 rw [List.getElem?_eq_getElem h2'] at f2
 have i1:its.toArray[j]=u1:=by simpa using Option.some.inj f1
 have i2:its2.toArray[j]=u2:=by simpa using Option.some.inj f2
 rw [i1,i2]
 unfold eAt
 rw [e1,e2]
 exact z
theorem xC (I:Inv X pins σ H s):∀ (n:Nat) (a b:D) (A:Around) (x y:V) (v u:Value),cW a≤n→aw a=true→aw b=true→Ow X.K O H a 0 x NoA→Ow X.K O H b 0 y NoA→RelV x v→RelV y u→A.units+n+1 < cLine →
  EqAt A s v u (peq a b)∧RcAt A s v u (peq a b)∧RcNeAt A s v u (!peq a b):=by
 intro n
 induction n with
 | zero =>
  intro a b A x y v u hdp hna hnb o1 o2 r1 r2 hun
  have hu:A.units < cLine:=by omega
  cases a with
  | none =>
   cases b with
   | none =>
    cases (show x=V.non from o1)
    cases r1
    cases (show y=V.non from o2)
    cases r2
    exact ⟨EqAt.same _,RcAt.none_none,RcNeAt.none_none⟩
   | bool c2 =>
    cases (show x=V.non from o1)
    cases r1
    cases (show y=V.bl c2 from o2)
    cases r2
    exact ⟨EqAt.none_bool _,RcAt.none_bool _,RcNeAt.none_bool _⟩
   | int c2 =>
    cases (show x=V.non from o1)
    cases r1
    cases (show y=V.int c2 from o2)
    obtain ⟨tk2,rfl⟩:=r2
    exact ⟨EqAt.none_int _ _,RcAt.none_int _ _,RcNeAt.none_int _ _⟩
   | str c2 =>
    cases (show x=V.non from o1)
    cases r1
    cases (show y=V.str c2 from o2)
    obtain ⟨tk2,rfl⟩:=r2
    exact ⟨EqAt.none_str _ _,RcAt.none_str _ _,RcNeAt.none_str _ _⟩
   | list c2 =>
    cases (show x=V.non from o1)
    cases r1
    obtain ⟨p2,vs2,rfl,fz2,w2⟩:=o2.lst0
    cases r2
    obtain ⟨its2,rv2,pl2,_⟩:=I.list fz2.sq
    have hl2:=pl2.isList
    exact ⟨EqAt.none_list  hl2 hu,RcAt.none_list  hl2 hu,RcNeAt.none_list  hl2 hu⟩
   | tuple c2 =>
    cases (show x=V.non from o1)
    cases r1
    obtain ⟨p2,vs2,rfl,fz2,w2⟩:=o2.tup0
    cases r2
    obtain ⟨its2,rv2,pl2,_⟩:=I.tuple fz2.sq
    have hl2:s.heap.IsTuple p2 its2.toArray:=pl2
    exact ⟨EqAt.none_tuple  hl2 hu,RcAt.none_tuple  hl2 hu,RcNeAt.none_tuple  hl2 hu⟩
   | dict c2=>simp [aw] at hnb
  | bool c1 =>
   cases b with
   | none =>
    cases (show x=V.bl c1 from o1)
    cases r1
    cases (show y=V.non from o2)
    cases r2
    exact ⟨EqAt.bool_none _,RcAt.bool_none _,RcNeAt.bool_none _⟩
   | bool c2 =>
    cases (show x=V.bl c1 from o1)
    cases r1
    cases (show y=V.bl c2 from o2)
    cases r2
    exact ⟨EqAt.bool_bool _ _,RcAt.bool_bool _ _,RcNeAt.bool_bool _ _⟩
   | int c2 =>
    cases (show x=V.bl c1 from o1)
    cases r1
    cases (show y=V.int c2 from o2)
    obtain ⟨tk2,rfl⟩:=r2
    exact ⟨EqAt.bool_int _ _ _,RcAt.bool_int _ _ _,RcNeAt.bool_int _ _ _⟩
   | str c2 =>
    cases (show x=V.bl c1 from o1)
    cases r1
    cases (show y=V.str c2 from o2)
    obtain ⟨tk2,rfl⟩:=r2
    exact ⟨EqAt.bool_str _ _ _,RcAt.bool_str _ _ _,RcNeAt.bool_str _ _ _⟩
   | list c2 =>
    cases (show x=V.bl c1 from o1)
    cases r1
    obtain ⟨p2,vs2,rfl,fz2,w2⟩:=o2.lst0
    cases r2
    obtain ⟨its2,rv2,pl2,_⟩:=I.list fz2.sq
    have hl2:=pl2.isList
    exact ⟨EqAt.bool_list _ hl2 hu,RcAt.bool_list _ hl2 hu,RcNeAt.bool_list _ hl2 hu⟩
   | tuple c2 =>
    cases (show x=V.bl c1 from o1)
    cases r1
    obtain ⟨p2,vs2,rfl,fz2,w2⟩:=o2.tup0
    cases r2
    obtain ⟨its2,rv2,pl2,_⟩:=I.tuple fz2.sq
    have hl2:s.heap.IsTuple p2 its2.toArray:=pl2
    exact ⟨EqAt.bool_tuple _ hl2 hu,RcAt.bool_tuple _ hl2 hu,RcNeAt.bool_tuple _ hl2 hu⟩
   | dict c2=>simp [aw] at hnb
  | int c1 =>
   cases b with
   | none =>
    cases (show x=V.int c1 from o1)
    obtain ⟨tk1,rfl⟩:=r1
    cases (show y=V.non from o2)
    cases r2
    exact ⟨EqAt.int_none _ _,RcAt.int_none _ _,RcNeAt.int_none _ _⟩
   | bool c2 =>
    cases (show x=V.int c1 from o1)
    obtain ⟨tk1,rfl⟩:=r1
    cases (show y=V.bl c2 from o2)
    cases r2
    exact ⟨EqAt.int_bool _ _ _,RcAt.int_bool _ _ _,RcNeAt.int_bool _ _ _⟩
   | int c2 =>
    cases (show x=V.int c1 from o1)
    obtain ⟨tk1,rfl⟩:=r1
    cases (show y=V.int c2 from o2)
    obtain ⟨tk2,rfl⟩:=r2
    exact ⟨EqAt.int_int _ _ _ _,RcAt.int_int _ _ _ _,RcNeAt.int_int _ _ _ _⟩
   | str c2 =>
    cases (show x=V.int c1 from o1)
    obtain ⟨tk1,rfl⟩:=r1
    cases (show y=V.str c2 from o2)
    obtain ⟨tk2,rfl⟩:=r2
    exact ⟨EqAt.int_str _ _ _ _,RcAt.int_str _ _ _ _,RcNeAt.int_str _ _ _ _⟩
   | list c2 =>
    cases (show x=V.int c1 from o1)
    obtain ⟨tk1,rfl⟩:=r1
    obtain ⟨p2,vs2,rfl,fz2,w2⟩:=o2.lst0
    cases r2
    obtain ⟨its2,rv2,pl2,_⟩:=I.list fz2.sq
    have hl2:=pl2.isList
    exact ⟨EqAt.int_list _ _ hl2 hu,RcAt.int_list _ _ hl2 hu,RcNeAt.int_list _ _ hl2 hu⟩
   | tuple c2 =>
    cases (show x=V.int c1 from o1)
    obtain ⟨tk1,rfl⟩:=r1
    obtain ⟨p2,vs2,rfl,fz2,w2⟩:=o2.tup0
    cases r2
    obtain ⟨its2,rv2,pl2,_⟩:=I.tuple fz2.sq
    have hl2:s.heap.IsTuple p2 its2.toArray:=pl2
    exact ⟨EqAt.int_tuple _ _ hl2 hu,RcAt.int_tuple _ _ hl2 hu,RcNeAt.int_tuple _ _ hl2 hu⟩
   | dict c2=>simp [aw] at hnb
  | str c1 =>
   cases b with
   | none =>
    cases (show x=V.str c1 from o1)
    obtain ⟨tk1,rfl⟩:=r1
    cases (show y=V.non from o2)
    cases r2
    exact ⟨EqAt.str_none _ _,RcAt.str_none _ _,RcNeAt.str_none _ _⟩
   | bool c2 =>
    cases (show x=V.str c1 from o1)
    obtain ⟨tk1,rfl⟩:=r1
    cases (show y=V.bl c2 from o2)
    cases r2
    exact ⟨EqAt.str_bool _ _ _,RcAt.str_bool _ _ _,RcNeAt.str_bool _ _ _⟩
   | int c2 =>
    cases (show x=V.str c1 from o1)
    obtain ⟨tk1,rfl⟩:=r1
    cases (show y=V.int c2 from o2)
    obtain ⟨tk2,rfl⟩:=r2
    exact ⟨EqAt.str_int _ _ _ _,RcAt.str_int _ _ _ _,RcNeAt.str_int _ _ _ _⟩
   | str c2 =>
    cases (show x=V.str c1 from o1)
    obtain ⟨tk1,rfl⟩:=r1
    cases (show y=V.str c2 from o2)
    obtain ⟨tk2,rfl⟩:=r2
    exact ⟨EqAt.str_str _ _ _ _,RcAt.str_str _ _ _ _,RcNeAt.str_str _ _ _ _⟩
   | list c2 =>
    cases (show x=V.str c1 from o1)
    obtain ⟨tk1,rfl⟩:=r1
    obtain ⟨p2,vs2,rfl,fz2,w2⟩:=o2.lst0
    cases r2
    obtain ⟨its2,rv2,pl2,_⟩:=I.list fz2.sq
    have hl2:=pl2.isList
    exact ⟨EqAt.str_list _ _ hl2 hu,RcAt.str_list _ _ hl2 hu,RcNeAt.str_list _ _ hl2 hu⟩
   | tuple c2 =>
    cases (show x=V.str c1 from o1)
    obtain ⟨tk1,rfl⟩:=r1
    obtain ⟨p2,vs2,rfl,fz2,w2⟩:=o2.tup0
    cases r2
    obtain ⟨its2,rv2,pl2,_⟩:=I.tuple fz2.sq
    have hl2:s.heap.IsTuple p2 its2.toArray:=pl2
    exact ⟨EqAt.str_tuple _ _ hl2 hu,RcAt.str_tuple _ _ hl2 hu,RcNeAt.str_tuple _ _ hl2 hu⟩
   | dict c2=>simp [aw] at hnb
  | list c1 =>
   simp only [cW] at hdp
   omega
  | tuple c1 =>
   simp only [cW] at hdp
   omega
  | dict c1=>simp [aw] at hna
 | succ n ih =>
  intro a b A x y v u hdp hna hnb o1 o2 r1 r2 hun
  have hu:A.units < cLine:=by omega
  have hu1:A.in1.units+n+1 < cLine:=by
   show A.units+1+n+1 < cLine
   omega
  cases a with
  | none =>
   cases b with
   | none =>
    cases (show x=V.non from o1)
    cases r1
    cases (show y=V.non from o2)
    cases r2
    exact ⟨EqAt.same _,RcAt.none_none,RcNeAt.none_none⟩
   | bool c2 =>
    cases (show x=V.non from o1)
    cases r1
    cases (show y=V.bl c2 from o2)
    cases r2
    exact ⟨EqAt.none_bool _,RcAt.none_bool _,RcNeAt.none_bool _⟩
   | int c2 =>
    cases (show x=V.non from o1)
    cases r1
    cases (show y=V.int c2 from o2)
    obtain ⟨tk2,rfl⟩:=r2
    exact ⟨EqAt.none_int _ _,RcAt.none_int _ _,RcNeAt.none_int _ _⟩
   | str c2 =>
    cases (show x=V.non from o1)
    cases r1
    cases (show y=V.str c2 from o2)
    obtain ⟨tk2,rfl⟩:=r2
    exact ⟨EqAt.none_str _ _,RcAt.none_str _ _,RcNeAt.none_str _ _⟩
   | list c2 =>
    cases (show x=V.non from o1)
    cases r1
    obtain ⟨p2,vs2,rfl,fz2,w2⟩:=o2.lst0
    cases r2
    obtain ⟨its2,rv2,pl2,_⟩:=I.list fz2.sq
    have hl2:=pl2.isList
    exact ⟨EqAt.none_list  hl2 hu,RcAt.none_list  hl2 hu,RcNeAt.none_list  hl2 hu⟩
   | tuple c2 =>
    cases (show x=V.non from o1)
    cases r1
    obtain ⟨p2,vs2,rfl,fz2,w2⟩:=o2.tup0
    cases r2
    obtain ⟨its2,rv2,pl2,_⟩:=I.tuple fz2.sq
    have hl2:s.heap.IsTuple p2 its2.toArray:=pl2
    exact ⟨EqAt.none_tuple  hl2 hu,RcAt.none_tuple  hl2 hu,RcNeAt.none_tuple  hl2 hu⟩
   | dict c2=>simp [aw] at hnb
  | bool c1 =>
   cases b with
   | none =>
    cases (show x=V.bl c1 from o1)
    cases r1
    cases (show y=V.non from o2)
    cases r2
    exact ⟨EqAt.bool_none _,RcAt.bool_none _,RcNeAt.bool_none _⟩
   | bool c2 =>
    cases (show x=V.bl c1 from o1)
    cases r1
    cases (show y=V.bl c2 from o2)
    cases r2
    exact ⟨EqAt.bool_bool _ _,RcAt.bool_bool _ _,RcNeAt.bool_bool _ _⟩
   | int c2 =>
    cases (show x=V.bl c1 from o1)
    cases r1
    cases (show y=V.int c2 from o2)
    obtain ⟨tk2,rfl⟩:=r2
    exact ⟨EqAt.bool_int _ _ _,RcAt.bool_int _ _ _,RcNeAt.bool_int _ _ _⟩
   | str c2 =>
    cases (show x=V.bl c1 from o1)
    cases r1
    cases (show y=V.str c2 from o2)
    obtain ⟨tk2,rfl⟩:=r2
    exact ⟨EqAt.bool_str _ _ _,RcAt.bool_str _ _ _,RcNeAt.bool_str _ _ _⟩
   | list c2 =>
    cases (show x=V.bl c1 from o1)
    cases r1
    obtain ⟨p2,vs2,rfl,fz2,w2⟩:=o2.lst0
    cases r2
    obtain ⟨its2,rv2,pl2,_⟩:=I.list fz2.sq
    have hl2:=pl2.isList
    exact ⟨EqAt.bool_list _ hl2 hu,RcAt.bool_list _ hl2 hu,RcNeAt.bool_list _ hl2 hu⟩
   | tuple c2 =>
    cases (show x=V.bl c1 from o1)
    cases r1
    obtain ⟨p2,vs2,rfl,fz2,w2⟩:=o2.tup0
    cases r2
    obtain ⟨its2,rv2,pl2,_⟩:=I.tuple fz2.sq
    have hl2:s.heap.IsTuple p2 its2.toArray:=pl2
    exact ⟨EqAt.bool_tuple _ hl2 hu,RcAt.bool_tuple _ hl2 hu,RcNeAt.bool_tuple _ hl2 hu⟩
   | dict c2=>simp [aw] at hnb
  | int c1 =>
   cases b with
   | none =>
    cases (show x=V.int c1 from o1)
    obtain ⟨tk1,rfl⟩:=r1
    cases (show y=V.non from o2)
    cases r2
    exact ⟨EqAt.int_none _ _,RcAt.int_none _ _,RcNeAt.int_none _ _⟩
   | bool c2 =>
    cases (show x=V.int c1 from o1)
    obtain ⟨tk1,rfl⟩:=r1
    cases (show y=V.bl c2 from o2)
    cases r2
    exact ⟨EqAt.int_bool _ _ _,RcAt.int_bool _ _ _,RcNeAt.int_bool _ _ _⟩
   | int c2 =>
    cases (show x=V.int c1 from o1)
    obtain ⟨tk1,rfl⟩:=r1
    cases (show y=V.int c2 from o2)
    obtain ⟨tk2,rfl⟩:=r2
    exact ⟨EqAt.int_int _ _ _ _,RcAt.int_int _ _ _ _,RcNeAt.int_int _ _ _ _⟩
   | str c2 =>
    cases (show x=V.int c1 from o1)
    obtain ⟨tk1,rfl⟩:=r1
    cases (show y=V.str c2 from o2)
    obtain ⟨tk2,rfl⟩:=r2
    exact ⟨EqAt.int_str _ _ _ _,RcAt.int_str _ _ _ _,RcNeAt.int_str _ _ _ _⟩
   | list c2 =>
    cases (show x=V.int c1 from o1)
    obtain ⟨tk1,rfl⟩:=r1
    obtain ⟨p2,vs2,rfl,fz2,w2⟩:=o2.lst0
    cases r2
    obtain ⟨its2,rv2,pl2,_⟩:=I.list fz2.sq
    have hl2:=pl2.isList
    exact ⟨EqAt.int_list _ _ hl2 hu,RcAt.int_list _ _ hl2 hu,RcNeAt.int_list _ _ hl2 hu⟩
   | tuple c2 =>
    cases (show x=V.int c1 from o1)
    obtain ⟨tk1,rfl⟩:=r1
    obtain ⟨p2,vs2,rfl,fz2,w2⟩:=o2.tup0
    cases r2
    obtain ⟨its2,rv2,pl2,_⟩:=I.tuple fz2.sq
    have hl2:s.heap.IsTuple p2 its2.toArray:=pl2
    exact ⟨EqAt.int_tuple _ _ hl2 hu,RcAt.int_tuple _ _ hl2 hu,RcNeAt.int_tuple _ _ hl2 hu⟩
   | dict c2=>simp [aw] at hnb
  | str c1 =>
   cases b with
   | none =>
    cases (show x=V.str c1 from o1)
    obtain ⟨tk1,rfl⟩:=r1
    cases (show y=V.non from o2)
    cases r2
    exact ⟨EqAt.str_none _ _,RcAt.str_none _ _,RcNeAt.str_none _ _⟩
   | bool c2 =>
    cases (show x=V.str c1 from o1)
    obtain ⟨tk1,rfl⟩:=r1
    cases (show y=V.bl c2 from o2)
    cases r2
    exact ⟨EqAt.str_bool _ _ _,RcAt.str_bool _ _ _,RcNeAt.str_bool _ _ _⟩
   | int c2 =>
    cases (show x=V.str c1 from o1)
    obtain ⟨tk1,rfl⟩:=r1
    cases (show y=V.int c2 from o2)
    obtain ⟨tk2,rfl⟩:=r2
    exact ⟨EqAt.str_int _ _ _ _,RcAt.str_int _ _ _ _,RcNeAt.str_int _ _ _ _⟩
   | str c2 =>
    cases (show x=V.str c1 from o1)
    obtain ⟨tk1,rfl⟩:=r1
    cases (show y=V.str c2 from o2)
    obtain ⟨tk2,rfl⟩:=r2
    exact ⟨EqAt.str_str _ _ _ _,RcAt.str_str _ _ _ _,RcNeAt.str_str _ _ _ _⟩
   | list c2 =>
    cases (show x=V.str c1 from o1)
    obtain ⟨tk1,rfl⟩:=r1
    obtain ⟨p2,vs2,rfl,fz2,w2⟩:=o2.lst0
    cases r2
    obtain ⟨its2,rv2,pl2,_⟩:=I.list fz2.sq
    have hl2:=pl2.isList
    exact ⟨EqAt.str_list _ _ hl2 hu,RcAt.str_list _ _ hl2 hu,RcNeAt.str_list _ _ hl2 hu⟩
   | tuple c2 =>
    cases (show x=V.str c1 from o1)
    obtain ⟨tk1,rfl⟩:=r1
    obtain ⟨p2,vs2,rfl,fz2,w2⟩:=o2.tup0
    cases r2
    obtain ⟨its2,rv2,pl2,_⟩:=I.tuple fz2.sq
    have hl2:s.heap.IsTuple p2 its2.toArray:=pl2
    exact ⟨EqAt.str_tuple _ _ hl2 hu,RcAt.str_tuple _ _ hl2 hu,RcNeAt.str_tuple _ _ hl2 hu⟩
   | dict c2=>simp [aw] at hnb
  | list c1 =>
   cases b with
   | none =>
    obtain ⟨p1,vs1,rfl,fz1,w1⟩:=o1.lst0
    cases r1
    obtain ⟨its1,rv1,pl1,_⟩:=I.list fz1.sq
    have hl1:=pl1.isList
    cases (show y=V.non from o2)
    cases r2
    exact ⟨EqAt.list_none  hl1 hu,RcAt.list_none  hl1 hu,RcNeAt.list_none  hl1 hu⟩
   | bool c2 =>
    obtain ⟨p1,vs1,rfl,fz1,w1⟩:=o1.lst0
    cases r1
    obtain ⟨its1,rv1,pl1,_⟩:=I.list fz1.sq
    have hl1:=pl1.isList
    cases (show y=V.bl c2 from o2)
    cases r2
    exact ⟨EqAt.list_bool _ hl1 hu,RcAt.list_bool _ hl1 hu,RcNeAt.list_bool _ hl1 hu⟩
   | int c2 =>
    obtain ⟨p1,vs1,rfl,fz1,w1⟩:=o1.lst0
    cases r1
    obtain ⟨its1,rv1,pl1,_⟩:=I.list fz1.sq
    have hl1:=pl1.isList
    cases (show y=V.int c2 from o2)
    obtain ⟨tk2,rfl⟩:=r2
    exact ⟨EqAt.list_int _ _ hl1 hu,RcAt.list_int _ _ hl1 hu,RcNeAt.list_int _ _ hl1 hu⟩
   | str c2 =>
    obtain ⟨p1,vs1,rfl,fz1,w1⟩:=o1.lst0
    cases r1
    obtain ⟨its1,rv1,pl1,_⟩:=I.list fz1.sq
    have hl1:=pl1.isList
    cases (show y=V.str c2 from o2)
    obtain ⟨tk2,rfl⟩:=r2
    exact ⟨EqAt.list_str _ _ hl1 hu,RcAt.list_str _ _ hl1 hu,RcNeAt.list_str _ _ hl1 hu⟩
   | list c2 =>
    obtain ⟨p1,vs1,rfl,fz1,w1⟩:=o1.lst0
    cases r1
    obtain ⟨its1,rv1,pl1,_⟩:=I.list fz1.sq
    have hl1:=pl1.isList
    obtain ⟨p2,vs2,rfl,fz2,w2⟩:=o2.lst0
    cases r2
    obtain ⟨its2,rv2,pl2,_⟩:=I.list fz2.sq
    have hl2:=pl2.isList
    have dl:bj c1≤n:=by simp only [cW] at hdp; omega
    have nd1:aE c1=true:=by simpa [aw] using hna
    have nd2:aE c2=true:=by simpa [aw] using hnb
    have el:=mB (A:=A.in1) w1 w2 rv1 rv2 fun j a b x y v u e1 e2 q1 q2 q3 q4=>(ih a b A.in1 x y v u (Nat.le_trans (iW e1) dl) (dy nd1 e1) (dy nd2 e2) q1 q2 q3 q4 hu1).1
    have l1:=rv1.length
    have l2:=rv2.length
    have m1:=w1.len
    have m2:=w2.len
    have rc:RcAt A s (.ref p1) (.ref p2) (bp c1 c2)∧RcNeAt A s (.ref p1) (.ref p2) (!bp c1 c2):=by
     by_cases hz:c1.length=c2.length
     ·have hs1:its1.toArray.size=its2.toArray.size:=by rw [List.size_toArray,List.size_toArray]; omega
      have hs2:its1.toArray.size=c1.length:=by rw [List.size_toArray]; omega
      have z1:=RcAt.lists hl1 hl2 hs1 hu el
      have z2:=RcNeAt.lists hl1 hl2 hs1 hu el
      rw [hs2,jG hz] at z1 z2
      exact ⟨z1,z2⟩
     ·have hs1:(its1.toArray.size != its2.toArray.size)=true:=by rw [List.size_toArray,List.size_toArray,bne_iff_ne]; omega
      rw [jE hz]
      exact ⟨RcAt.lists_lengths hl1 hl2 hs1 hu,RcNeAt.lists_lengths hl1 hl2 hs1 hu⟩
    have pe:peq (.list c1) (.list c2)=bp c1 c2:=by simp only [peq]
    refine ⟨?_,by rw [pe]; exact rc.1,by rw [pe]; exact rc.2⟩
    by_cases hp:p1=p2
    ·subst hp
     have:=Ow.inj I _ _ o1 o2 hna
     cases this
     rw [jH _ hna]
     exact EqAt.same _
    ·rw [pe]
     exact EqAt.of_refs hp rc.1
   | tuple c2 =>
    obtain ⟨p1,vs1,rfl,fz1,w1⟩:=o1.lst0
    cases r1
    obtain ⟨its1,rv1,pl1,_⟩:=I.list fz1.sq
    have hl1:=pl1.isList
    obtain ⟨p2,vs2,rfl,fz2,w2⟩:=o2.tup0
    cases r2
    obtain ⟨its2,rv2,pl2,_⟩:=I.tuple fz2.sq
    have hl2:s.heap.IsTuple p2 its2.toArray:=pl2
    exact ⟨EqAt.list_tuple hl1 hl2 hu,RcAt.list_tuple hl1 hl2 hu,RcNeAt.list_tuple hl1 hl2 hu⟩
   | dict c2=>simp [aw] at hnb
  | tuple c1 =>
   cases b with
   | none =>
    obtain ⟨p1,vs1,rfl,fz1,w1⟩:=o1.tup0
    cases r1
    obtain ⟨its1,rv1,pl1,_⟩:=I.tuple fz1.sq
    have hl1:s.heap.IsTuple p1 its1.toArray:=pl1
    cases (show y=V.non from o2)
    cases r2
    exact ⟨EqAt.tuple_none  hl1 hu,RcAt.tuple_none  hl1 hu,RcNeAt.tuple_none  hl1 hu⟩
   | bool c2 =>
    obtain ⟨p1,vs1,rfl,fz1,w1⟩:=o1.tup0
    cases r1
    obtain ⟨its1,rv1,pl1,_⟩:=I.tuple fz1.sq
    have hl1:s.heap.IsTuple p1 its1.toArray:=pl1
    cases (show y=V.bl c2 from o2)
    cases r2
    exact ⟨EqAt.tuple_bool _ hl1 hu,RcAt.tuple_bool _ hl1 hu,RcNeAt.tuple_bool _ hl1 hu⟩
   | int c2 =>
    obtain ⟨p1,vs1,rfl,fz1,w1⟩:=o1.tup0
    cases r1
    obtain ⟨its1,rv1,pl1,_⟩:=I.tuple fz1.sq
    have hl1:s.heap.IsTuple p1 its1.toArray:=pl1
    cases (show y=V.int c2 from o2)
    obtain ⟨tk2,rfl⟩:=r2
    exact ⟨EqAt.tuple_int _ _ hl1 hu,RcAt.tuple_int _ _ hl1 hu,RcNeAt.tuple_int _ _ hl1 hu⟩
   | str c2 =>
    obtain ⟨p1,vs1,rfl,fz1,w1⟩:=o1.tup0
    cases r1
    obtain ⟨its1,rv1,pl1,_⟩:=I.tuple fz1.sq
    have hl1:s.heap.IsTuple p1 its1.toArray:=pl1
    cases (show y=V.str c2 from o2)
    obtain ⟨tk2,rfl⟩:=r2
    exact ⟨EqAt.tuple_str _ _ hl1 hu,RcAt.tuple_str _ _ hl1 hu,RcNeAt.tuple_str _ _ hl1 hu⟩
   | list c2 =>
    obtain ⟨p1,vs1,rfl,fz1,w1⟩:=o1.tup0
    cases r1
    obtain ⟨its1,rv1,pl1,_⟩:=I.tuple fz1.sq
    have hl1:s.heap.IsTuple p1 its1.toArray:=pl1
    obtain ⟨p2,vs2,rfl,fz2,w2⟩:=o2.lst0
    cases r2
    obtain ⟨its2,rv2,pl2,_⟩:=I.list fz2.sq
    have hl2:=pl2.isList
    exact ⟨EqAt.tuple_list hl1 hl2 hu,RcAt.tuple_list hl1 hl2 hu,RcNeAt.tuple_list hl1 hl2 hu⟩
   | tuple c2 =>
    obtain ⟨p1,vs1,rfl,fz1,w1⟩:=o1.tup0
    cases r1
    obtain ⟨its1,rv1,pl1,_⟩:=I.tuple fz1.sq
    have hl1:s.heap.IsTuple p1 its1.toArray:=pl1
    obtain ⟨p2,vs2,rfl,fz2,w2⟩:=o2.tup0
    cases r2
    obtain ⟨its2,rv2,pl2,_⟩:=I.tuple fz2.sq
    have hl2:s.heap.IsTuple p2 its2.toArray:=pl2
    have dl:bj c1≤n:=by simp only [cW] at hdp; omega
    have nd1:aE c1=true:=by simpa [aw] using hna
    have nd2:aE c2=true:=by simpa [aw] using hnb
    have el:=mB (A:=A.in1) w1 w2 rv1 rv2 fun j a b x y v u e1 e2 q1 q2 q3 q4=>(ih a b A.in1 x y v u (Nat.le_trans (iW e1) dl) (dy nd1 e1) (dy nd2 e2) q1 q2 q3 q4 hu1).1
    have l1:=rv1.length
    have l2:=rv2.length
    have m1:=w1.len
    have m2:=w2.len
    have rc:RcAt A s (.ref p1) (.ref p2) (bp c1 c2)∧RcNeAt A s (.ref p1) (.ref p2) (!bp c1 c2):=by
     have z1:=RcAt.tuples hl1 hl2 hu el
     have z2:=RcNeAt.tuples hl1 hl2 hu el
     have ez:((List.range (min its1.toArray.size its2.toArray.size)).all (eAt c1 c2) && its1.toArray.size == its2.toArray.size)=bp c1 c2:=by
      rw [List.size_toArray,List.size_toArray]
      by_cases hz:c1.length=c2.length
      ·have h3:its1.length=its2.length:=by omega
       have h4:min its1.length its2.length=c1.length:=by omega
       rw [h4,jG hz,h3,beq_self_eq_true,Bool.and_true]
      ·have h3:(its1.length == its2.length)=false:=by rw [beq_eq_false_iff_ne]; omega
       rw [h3,Bool.and_false,jE hz]
     rw [ez] at z1 z2
     exact ⟨z1,z2⟩
    have pe:peq (.tuple c1) (.tuple c2)=bp c1 c2:=by simp only [peq]
    refine ⟨?_,by rw [pe]; exact rc.1,by rw [pe]; exact rc.2⟩
    by_cases hp:p1=p2
    ·subst hp
     have:=Ow.inj I _ _ o1 o2 hna
     cases this
     rw [jH _ hna]
     exact EqAt.same _
    ·rw [pe]
     exact EqAt.of_refs hp rc.1
   | dict c2=>simp [aw] at hnb
  | dict c1=>simp [aw] at hna
end
def eqD (a b:D):Option D:=grd (aw a=true∧aw b=true∧cW a≤60) (.bool (peq a b))
def neD (a b:D):Option D:=grd (aw a=true∧aw b=true∧cW a≤60) (.bool (!peq a b))
section
variable {X:Cx} {K:PySem.W.Frag}
theorem fE (hK:X.K=K) (hu:X.A.units+64 < cLine):OpR X (compareOp .Eq) (rF2 K eqD 3):=by
 subst hK
 intro pins s σ H x y v u Q I rx ry ⟨O,a,b,t,oa,ob,hd,hg,k⟩
 obtain ⟨⟨c1,c2,c3⟩,rfl⟩:=dJ hg
 exact (xC I 60 a b X.A x y v u c3 c1 c2 oa ob rx ry (by omega)).2.1 X.prog X.w _ _ ⟨.bl _,H,I,rfl,k _ H NoA .refl rfl⟩
theorem jg (hK:X.K=K) (hu:X.A.units+64 < cLine):OpR X (compareOp .NotEq) (rF2 K neD 3):=by
 subst hK
 intro pins s σ H x y v u Q I rx ry ⟨O,a,b,t,oa,ob,hd,hg,k⟩
 obtain ⟨⟨c1,c2,c3⟩,rfl⟩:=dJ hg
 exact (xC I 60 a b X.A x y v u c3 c1 c2 oa ob rx ry (by omega)).2.2 X.prog X.w _ _ ⟨.bl _,H,I,rfl,k _ H NoA .refl rfl⟩
end
end L2
namespace L2
open PySem PySem.Spec PyProof.Rows
theorem BlkOkC.inn {X:Cx} {scope:Scope} {ns:List Str} {js:List (Option Nat)} {N0:List Str} {sc0:Scope} {cl:List (Str × Addr)} {C:Addr} {env:Env} (hN:X.N=N0) (hE:X.env=compEnvC sc0 cl C env) (h:jm N0 sc0 scope ns js=true):BlkOkC X scope ns js:=by
 unfold jm at h
 simp only [Bool.and_eq_true,List.all_eq_true,decide_eq_true_eq,List.mem_range] at h
 obtain ⟨⟨⟨⟨⟨⟨h1,h2⟩,h3⟩,h4⟩,h5⟩,h6⟩,h7⟩:=h
 refine ⟨h1,fun y hy=>h2 y hy,fun y hy=>h3 y hy,fun y hy hk=>?_,h5,h6,fun i x j e1 e2=>?_⟩
 ·rw [hE]
  rcases h4 y hy hk with q | q
  ·exact .inl (ic (env:=env) q)
  ·exact ib (env:=env) q
 ·rw [hN]
  exact nM h7 e1 e2
theorem xJ {K:PySem.W.Frag} {dps:List Nat} {dr n:Nat} {F:List D→Option (D × En)} {vs:List V} {H:Hp} {Q:VK} {E:XK} (hn:dps.length=n) (h:spF K dps dr F vs H Q E):vs.length=n:=by
 obtain ⟨Ox,ts,R,r,outs,e,_⟩:=h
 have:=e.l2
 rw [List.length_map] at this
 omega
section
variable {X:Cx} {K:PySem.W.Frag} {p:Bool} {J:Jd} {ds ds0 ds1 ds2 ds3 ds':List Nat} {d d' d1 d2 d3:Nat} {a b c e:Expr} {st:Stmt} {f f1 f2 f3:ME} {m:MS} {pos p2:Pos}
theorem yI (h:PS X st (tFS K J ds ds2 m)) (hd:leD ds1 ds2=true):PS X st (tFS K J ds ds1 m):=h.imp fun _ _ _=>CH hd
def Fd (g g':D→D→Option D) (f1 f2 f3:ME):ME:=fun en=>(f1 en).bind fun r=>(f2 r.2).bind fun q=>(g r.1 q.1).bind fun t=>match t with
 | .bool true=>(f3 q.2).bind fun z=>(g' q.1 z.1).map fun t=>(t,z.2)
 | .bool false=>some (.bool false,q.2)
 | _=>none
abbrev MO:=En→Option (Option Int × En)
def tFO (K:PySem.W.Frag) (p:Bool) (ds ds':List Nat) (f:MO):TO:=fun σ H Q=>∃ Ox en R o en',EnvOk K ds Ox H σ en R∧f en=some (o,en')∧∀ H' R',Post K p ds' Ox σ H en R en' H' R' NoA→Q o H'
def b9:MO:=fun en=>some (none,en)
def bR (f:ME):MO:=fun en=>(f en).bind fun r=>match r.1 with
 | .int i=>some (some i,r.2)
 | _=>none
theorem PO.imp {X:Cx} {e:Option Expr} {t t':TO} (h:PO X e t) (hi:∀ σ H Q,t' σ H Q→t σ H Q):PO X e t':=fun pins s σ H Q I hw=>h pins s σ H Q I (hi _ _ _ hw)
theorem yU:PO X none (tFO K p ds ds b9):=po_none.imp fun σ H Q ⟨Ox,en,R,o,en',e,hf,k⟩=>by
 cases hf
 exact k H R (Post.refl e)
theorem yS (h:PE X e (tF K p ds ds1 d f)):PO X (some e) (tFO K p ds ds1 (bR f)):=(xV h).imp fun σ H Q ⟨Ox,en,R,o,en',e,hf,k⟩=>by
 unfold bR at hf
 obtain ⟨⟨t1,en1⟩,h1,hf⟩:=Option.bind_eq_some_iff.mp hf
 refine ⟨Ox,en,R,t1,en1,e,h1,fun v H' R' F P o=>?_⟩
 cases t1 with
 | int i=>cases hf; exact ⟨i,o,k H' R' (P.less fun _ z=>z.elim)⟩
 | _=>cases hf
def rFs (K:PySem.W.Frag) (g:D→Option Int→Option Int→Option D) (d:Nat):V→Option Int→Option Int→Hp→VK→Prop:=fun x lo hi H Q=>∃ (O:AS) (a t:D),Ow K O H a 0 x NoA∧(∀ a,O a→∃ o,H a=some o)∧g a lo hi=some t∧∀ v H' F,NewTo H H' F→Ow K (U F O) H' t d v F→Q v H'
def eSl (g:D→Option Int→Option Int→Option D) (f:ME) (lo hi:MO):ME:=fun en=>(f en).bind fun r=>(lo r.2).bind fun l=>(hi l.2).bind fun h=>(g r.1 l.1 h.1).map fun t=>(t,h.2)
variable {lo hi:MO}
theorem Ow.past0 {H1 H2:Hp} {R1 R2:Nat→AS} {Ox:AS} {σ:St} {en1 en2:En} {F2:AS} {t:D} {v:V} (P2:Post K p ds2 Ox σ H1 en1 R1 en2 H2 R2 F2) (h:Ow K (Own R1 Ox) H1 t 0 v NoA):Ow K (Own R2 Ox) H2 t 0 v NoA:=by
 refine Ow.mv (G:=NoA) ⟨fun a o q z=>P2.keep a o q fun i zi=>?_,fun a z=>?_⟩ t (fun _ z=>z) h
 ·rcases z with z | z
  ·exact z (.inl ⟨i,zi⟩)
  ·exact z
 ·rcases z with z | z
  ·exact (P2.own a (.inr z)).imp .inl id
  ·exact .inl (.inr z)
theorem ER {g:D→Option Int→Option Int→Option D} {σ:St} {H:Hp} {Q:VK} (h:tF K p ds ds3 d (eSl g f lo hi) σ H Q):tSl (rFs K g d) (tF K p ds ds1 d1 f) (tFO K p ds1 ds2 lo) (tFO K p ds2 ds3 hi) σ H Q:=by
 obtain ⟨Ox,en,R,t,en',e,hf,k⟩:=h
 unfold eSl at hf
 obtain ⟨⟨t1,en1⟩,h1,hf⟩:=Option.bind_eq_some_iff.mp hf
 obtain ⟨⟨l,en2⟩,h2,hf⟩:=Option.bind_eq_some_iff.mp hf
 obtain ⟨⟨u,en3⟩,h3,hf⟩:=Option.bind_eq_some_iff.mp hf
 obtain ⟨t',h4,hf⟩:=Option.map_eq_some_iff.mp hf
 cases hf
 refine ⟨Ox,en,R,t1,en1,e,h1,fun v H1 R1 F1 P1 o1=>?_⟩
 have o0:=Ow.letgo P1 (fun _ z=>z) o1
 refine ⟨Ox,en1,R1,l,en2,P1.env0,h2,fun H2 R2 P2=>?_⟩
 refine ⟨Ox,en2,R2,u,en3,P2.env0,h3,fun H3 R3 P3=>?_⟩
 have P:=(P1.after P2).after P3
 rw [Bool.and_self,Bool.and_self] at P
 exact ⟨Own R3 Ox,t1,t,(o0.past0 P2).past0 P3,P3.doms,h4,fun v4 H4 F4 n4 o4=>k v4 H4 R3 F4 (P.fin n4) (lG ▸ o4)⟩
theorem SlR.imp {r r':V→Option Int→Option Int→Hp→VK→Prop} (h:SlR X r) (hi:∀ x lo hi H Q,r' x lo hi H Q→r x lo hi H Q):SlR X r':=fun pins s σ H x v vl vu lo hi' sl Q I rx hs pl pu q=>h pins s σ H x v vl vu lo hi' sl Q I rx hs pl pu (hi _ _ _ _ _ q)
theorem rj {g:D→Option Int→Option Int→Option D} {elo ehi:Option Expr} (hr:SlR X (rFs K g d)) (he:PE X e (tF K p ds ds1 d1 f)) (hl:PO X elo (tFO K p ds1 ds2 lo)) (hu:PO X ehi (tFO K p ds2 ds3 hi)):PE X (.Subscript e (.Slice elo ehi none p2) pos) (tF K p ds ds3 d (eSl g f lo hi)) :=
 (qB hr he hl hu).imp fun _ _ _=>ER
def bX {α:Type} (xs:List α) (lo hi:Option Int):List α:=(xs.drop (HT.sIx xs.length 0 lo)).take (HT.sIx xs.length xs.length hi - HT.sIx xs.length 0 lo)
def cn:D→Option Int→Option Int→Option D
 | .list ts,lo,hi=>some (.list (bX ts lo hi))
 | _,_,_=>none
theorem dk (hK:X.K=K):SlR X (rFs K cn 1):=(EK hK).imp fun x lo hi H Q ⟨O,a,t,oa,hd,hg,k⟩=>by
 cases a with
 | list ts =>
  cases hg
  obtain ⟨a,vs,e1,f1,w1⟩:=oa.lst0
  refine ⟨a,vs,e1,f1.sq,fun p hp=>?_⟩
  have w2:Ows K O H (bX ts lo hi) 0 (gx vs lo hi) NoA:=by
   unfold bX gx
   rw [w1.len]
   exact (w1.drop _).take _
  exact k _ _ _ (cx hp hd w2).1 (cx hp hd w2).2
 | _=>cases hg
def FE:D→Option Int→Option Int→Option D
 | .str z,lo,hi=>grd (z.length≤sizeLine) (.str ⟨(EV z.cps.toList lo hi).toArray⟩)
 | _,_,_=>none
end
end L2
namespace L2
open PySem PySem.Spec PyProof.Rows
def kEq:D→D→Bool
 | .int a,.int b=>a == b
 | .str a,.str b=>a == b
 | _,_=>false
theorem j1 (a b:Key):kEq (kD a) (kD b)=decide (a=b):=by
 cases a with
 | inl i=>cases b with
  | inl j=>rw [pq]; rfl
  | inr j=>rw [pp]; rfl
 | inr i=>cases b with
  | inl j=>rw [pk]; rfl
  | inr j =>
   rw [pj]
   show (i == j)=_
   by_cases h:i=j
   ·subst h; simp
   ·rw [decide_eq_false h,beq_eq_false_iff_ne]; exact h
def kOf:D→Option Key
 | .int i=>some (.inl i)
 | .str x=>some (.inr x)
 | _=>none
theorem mx {a:D} {q:Key} (h:kOf a=some q):a=kD q:=by
 cases a <;> cases h <;> rfl
theorem l8 {K:PySem.W.Frag} {O:AS} {H:Hp} {a:D} {q:Key} {d:Nat} {v:V} {F:AS} (h:kOf a=some q) (o:Ow K O H a d v F):v=kV q:=by
 cases a with
 | int i=>cases h; exact o
 | str i=>cases h; exact o
 | _=>cases h
def eX (ks:List (D × D)) (q:D):Option D:=(ks.find? fun kv=>kEq kv.1 q).map (·.2)
def kC (ks:List (D × D)) (q t:D):List (D × D):=if ks.any (fun kv=>kEq kv.1 q) then ks.map (fun kv=>if kEq kv.1 q then (kv.1,t) else kv) else ks++[(q,t)]
section
variable {K:PySem.W.Frag} {O:AS} {H:Hp} {d:Nat}
theorem Owd.look:∀ {ks:List (D × D)} {vs:List (Key × V)} {F:AS} (q:Key),Owd K O H ks d vs F→(∃ t v,eX ks (kD q)=some t∧dI vs q=some v∧Ow K O H t d v F)∨(eX ks (kD q)=none∧dI vs q=none)
 | [],_,_,q,h=>by rw [show _=[] from h]; exact .inr ⟨rfl,rfl⟩
 | (k,t) :: ks,_,F,q,h=>by
  obtain ⟨q',v,r,F1,F2,e,e2,s1,s2,_,h4,h5⟩:=h
  subst e e2
  by_cases hq:q'=q
  ·subst hq
   refine .inl ⟨t,v,?_,hV rfl,Ow.grow (fun _ z=>z) t s1 h4⟩
   unfold eX
   rw [List.find?_cons,j1,decide_eq_true rfl]
   rfl
  ·have e1:eX ((kD q',t) :: ks) (kD q)=eX ks (kD q):=by
    unfold eX
    rw [List.find?_cons,j1,decide_eq_false hq]
   have e2:dI ((q',v) :: r) q=dI r q:=hX hq
   rw [e1,e2]
   rcases Owd.look q h5 with ⟨t',v',a1,a2,a3⟩ | z
   ·exact .inl ⟨t',v',a1,a2,Ow.grow (fun _ z=>z) t' s2 a3⟩
   ·exact .inr z
theorem Owd.any:∀ {ks:List (D × D)} {vs:List (Key × V)} {F:AS} (q:Key),Owd K O H ks d vs F→ks.any (fun kv=>kEq kv.1 (kD q))=vs.any (fun kv=>decide (kv.1=q))
 | [],_,_,q,h=>by rw [show _=[] from h]; rfl
 | (k,t) :: ks,_,F,q,h=>by
  obtain ⟨q',v,r,F1,F2,e,e2,_,_,_,_,h5⟩:=h
  subst e e2
  rw [List.any_cons,List.any_cons,j1,Owd.any q h5]
theorem Owd.len:∀ {ks:List (D × D)} {vs:List (Key × V)} {F:AS},Owd K O H ks d vs F→vs.length=ks.length
 | [],_,_,h=>by rw [show _=[] from h]; rfl
 | (k,t) :: ks,_,F,h=>by
  obtain ⟨q',v,r,F1,F2,e,e2,_,_,_,_,h5⟩:=h
  rw [e,List.length_cons,List.length_cons,h5.len]
theorem Owd.rep0 {t:D} {v:V} {q:Key} (ht:Ow K O H t 0 v NoA):∀ {ks:List (D × D)} {vs:List (Key × V)},Owd K O H ks 0 vs NoA→Owd K O H (ks.map fun kv=>if kEq kv.1 (kD q) then (kv.1,t) else kv) 0 (vs.map fun kv=>if kv.1=q then (kv.1,v) else kv) NoA
 | [],_,h=>by rw [show _=[] from h]; rfl
 | (k,u) :: ks,_,h=>by
  obtain ⟨q',w,r,F1,F2,e,e2,_,_,_,h4,h5⟩:=h
  subst e e2
  rw [List.map_cons,List.map_cons]
  have ih:=Owd.rep0 (q:=q) ht (Owd.any0 ks h5)
  dsimp only
  rw [j1]
  by_cases hq:q'=q
  ·rw [if_pos hq,if_pos (decide_eq_true hq)]
   exact ⟨q',v,_,NoA,NoA,rfl,rfl,fun _ z=>z,fun _ z=>z,fun _ z=>z.elim,ht,ih⟩
  ·rw [if_neg hq,if_neg (by rw [decide_eq_false hq]; exact Bool.false_ne_true)]
   exact ⟨q',w,_,NoA,NoA,rfl,rfl,fun _ z=>z,fun _ z=>z,fun _ z=>z.elim,Ow.any0 u h4,ih⟩
theorem Owd.snoc0 {t:D} {v:V} {q:Key} (ht:Ow K O H t 0 v NoA):∀ {ks:List (D × D)} {vs:List (Key × V)},Owd K O H ks 0 vs NoA→Owd K O H (ks++[(kD q,t)]) 0 (vs++[(q,v)]) NoA
 | [],_,h=>by
  rw [show _=[] from h]
  exact ⟨q,v,[],NoA,NoA,rfl,rfl,fun _ z=>z,fun _ z=>z,fun _ z=>z.elim,ht,rfl⟩
 | (k,u) :: ks,_,h=>by
  obtain ⟨q',w,r,F1,F2,e,e2,_,_,_,h4,h5⟩:=h
  subst e e2
  exact ⟨q',w,_,NoA,NoA,rfl,rfl,fun _ z=>z,fun _ z=>z,fun _ z=>z.elim,Ow.any0 u h4,Owd.snoc0 ht (Owd.any0 ks h5)⟩
theorem Owd.put0 {t:D} {v:V} {q:Key} {ks:List (D × D)} {vs:List (Key × V)} (h:Owd K O H ks 0 vs NoA) (ht:Ow K O H t 0 v NoA):Owd K O H (kC ks (kD q) t) 0 (cA vs q v) NoA:=by
 unfold kC cA
 rw [h.any q]
 by_cases hq:(vs.any fun kv=>decide (kv.1=q))=true
 ·rw [if_pos hq,if_pos hq]
  exact Owd.rep0 ht h
 ·rw [if_neg hq,if_neg hq]
  exact Owd.snoc0 ht h
theorem Owd.past {ks:List (D × D)} {vs:List (Key × V)} {F:AS} {l:Addr} {o:HO} {O':AS} (ho:∀ a,O' a→O a) (hl:O l) (hf:∀ b,F b→b≠l) (h:Owd K O H ks d vs F):Owd K O' (upd H l o) ks d vs F:=by
 refine Owd.mv (G:=F) ⟨fun a u q z=>?_,fun a z=>.inl (ho a z)⟩ ks (fun _ z=>z) h
 rw [aM]
 ·exact q
 ·intro za
  subst za
  rcases z with z | z
  ·exact z hl
  ·exact hf a z rfl
theorem Ow.dict1 {ks:List (D × D)} {v:V} {F:AS} (hd:d≠0) (h:Ow K O H (.dict ks) d v F):∃ a vs,v=.ref a∧H a=some (.dK vs)∧F a∧∃ F':AS,(∀ b,F' b→F b∧b≠a)∧Owd K O H ks (dn d) vs F':=by
 obtain ⟨a,vs,e,⟨z,_⟩ | ⟨_,h1,h2,h3⟩⟩:=h
 ·exact absurd z hd
 ·exact ⟨a,vs,e,h1,h2,h3⟩
end
def kc:ME:=eC (.dict [])
def FC:D→D→Option D
 | .dict ks,q=>(kOf q).bind fun _=>eX ks q
 | _,_=>none
section
variable {X:Cx} {K:PySem.W.Frag} {p:Bool} {J:Jd} {ds ds0 ds1 ds2 ds':List Nat} {d d' d1 d2:Nat} {a b c e o k:Expr} {f f1 f2 fk fe:ME} {pos px spos:Pos} {i:Nat} {σ:St} {H:Hp} {Q:VK} {Dn:Ends}
theorem zl:PE X (.Dict [] [] pos) (tF K p ds ds 3 kc):=pe_dnewK.imp fun σ H Q ⟨Ox,en,R,t,en',e,hf,k⟩=>by
 cases hf
 intro l hl
 have n:NewTo H (upd H l (.dK [])) (fun b=>b=l):=bK hl
 exact k (.ref l) _ R _ (Post.new e n.1 n.2) ⟨l,[],rfl,.inr ⟨by decide,aL,rfl,NoA,fun _ z=>z.elim,rfl⟩⟩
def bC (i:Nat) (f:ME):ME:=fun en=>(en[i]?).join.bind fun _=>(f en).bind fun r=>match (r.2[i]?).join with
 | some (.dict ks)=>(kOf r.1).bind fun _=>(eX ks r.1).map fun t=>(t,r.2)
 | _=>none
theorem zq (hd:ds1[i]?=some 1) (h:tF K p ds ds1 0 (bC i f) σ H Q):xh (eE i) (tF K p ds ds1 d1 f) σ H Q:=by
 obtain ⟨Ox,en,R,t,en',e,hf,k⟩:=h
 unfold bC at hf
 obtain ⟨t0,h0,hf⟩:=Option.bind_eq_some_iff.mp hf
 obtain ⟨⟨t1,en1⟩,h1,hf⟩:=Option.bind_eq_some_iff.mp hf
 dsimp only at hf
 split at hf
 case h_2=>cases hf
 next ks h2 =>
 obtain ⟨q,hq,hf⟩:=Option.bind_eq_some_iff.mp hf
 obtain ⟨t',h3,hf⟩:=Option.map_eq_some_iff.mp hf
 cases hf
 obtain ⟨v,d0,a1,_,a3⟩:=e.at_ i _ (a9 h0)
 refine ⟨v,a1,Ox,en,R,t1,_,e,h1,fun x H1 R1 F P o=>?_⟩
 obtain ⟨v',d',b1,b2,b3⟩:=P.env.at_ i _ (a9 h2)
 rw [a1] at b1
 cases b1
 rw [hd] at b2
 cases b2
 obtain ⟨l,vs,el,hl,hr,F',hf',ow⟩:=b3.dict1 (by decide)
 rw [mx hq] at h3
 rcases ow.look q with ⟨t'',w,c1,c2,c3⟩ | ⟨z,_⟩
 ·rw [h3] at c1
  cases c1
  refine ⟨l,w,el,?_,k w H1 R1 NoA (P.less fun _ z=>z.elim) ?_⟩
  ·rw [← c2,l8 hq o]
   exact DGet.k hl
  ·exact Ow.any0 _ (Ow.grow (fun a z=>z.imp id fun z=>z.elim (fun z=>False.elim z) Or.inr) _ (fun _ z=>z) c3)
 ·rw [h3] at z; cases z
theorem rm {x:Str} (hu:X.A.units+1 < cLine) (hN:X.N[i]?=some x) (hv:Vis X.env.scope x) (h1:ds1[i]?=some 1) (hi:PE X k (tF K p ds ds1 d1 f)) (hs:oN k) (hd:(x == ("__debug__" : Str))=false) (hcd:(x == ("__classdict__" : Str))=false) :
  PE X (.Subscript (.Name x px) k pos) (tF K p ds ds1 0 (bC i f)):=(xZ hu (cS hN hv hd hcd) hi hs).imp fun _ _ _=>zq h1
def cP (i:Nat) (fk fe:ME):MS:=fun en=>(fe en).bind fun r=>match (r.2[i]?).join with
 | some _=>(fk r.2).bind fun q=>match (q.2[i]?).join with
  | some (.dict ks)=>(kOf q.1).bind fun _=>if ks.length < sizeLine then some (.nx (q.2.set i (some (.dict (kC ks q.1 r.1))))) else none
  | _=>none
 | none=>none
theorem yG (hd:ds2[i]?=some 1) (h:tFS K J ds ds2 (cP i fk fe) Dn σ H):xk (eE i) (tF K false ds1 ds2 d2 fk) (tF K false ds ds1 0 fe) Dn σ H:=by
 obtain ⟨Ox,en,R,fl,e,hf,k⟩:=h
 unfold cP at hf
 obtain ⟨⟨t1,en1⟩,h1,hf⟩:=Option.bind_eq_some_iff.mp hf
 dsimp only at hf
 split at hf
 case h_2=>cases hf
 next tt h0 =>
 obtain ⟨⟨t2,en2⟩,h2,hf⟩:=Option.bind_eq_some_iff.mp hf
 dsimp only at hf
 split at hf
 case h_2=>cases hf
 next ks h3 =>
 obtain ⟨q,hq,hf⟩:=Option.bind_eq_some_iff.mp hf
 by_cases hlen:ks.length < sizeLine
 case neg=>rw [if_neg hlen] at hf; cases hf
 rw [if_pos hlen] at hf
 cases hf
 refine ⟨Ox,en,R,t1,en1,e,h1,fun x H1 R1 F1 P1 o1=>?_⟩
 obtain ⟨v0,d0,a1,_,_⟩:=P1.env.at_ i tt (a9 h0)
 refine ⟨v0,a1,?_⟩
 refine ⟨U F1 Ox,en1,R1,t2,en2,P1.env,h2,fun y H2 R2 F2 P2 o2=>?_⟩
 have P:=P1.trans P2
 have o1':=Ow.over P1.env P2 o1
 have w1:=Ow.letgo P (fun _=>.inl) o1'
 obtain ⟨v',d',b1,b2,b3⟩:=P.env.at_ i _ (a9 h3)
 rw [a1] at b1
 cases b1
 rw [hd] at b2
 cases b2
 obtain ⟨l,vs,el,hl,hr,F',hf',ow⟩:=b3.dict1 (by decide)
 have eq:=l8 hq o2
 subst eq
 refine ⟨l,_,el,DPut.k hl (by rw [ow.len]; exact hlen),?_⟩
 have hi:i < en2.length:=(List.getElem?_eq_some_iff.mp (a9 h3)).1
 have gG:∀ a,(fun a=>R2 i a) a→R2 i a∨U F1 F2 a:=fun a z=>.inl z
 have sub:=i5 (i:=i) (R1:=R2) (Ox:=Ox) (G:=fun a=>R2 i a) (F':=NoA) (F:=U F1 F2) gG (fun _ z=>z.elim)
 have Ol:Own R2 (U (U F1 F2) Ox) l:=.inl ⟨i,hr⟩
 have PS:=P.slot (G:=fun a=>R2 i a) (F':=NoA) (o2:=.dK (cA vs q x)) (t:=.dict (kC ks t2 t1)) hr hi a1 hd gG (fun _ z=>z.elim) (fun _ _ z=>z) ?_
 ·exact k σ _ _ PS.s
 refine ⟨l,cA vs q x,el,.inr ⟨by decide,aL,hr,NoA,fun _ z=>z.elim,?_⟩⟩
 rw [mx hq]
 refine Owd.put0 (Owd.past sub Ol (fun _ z=>z.elim) (Owd.any0 ks ow)) ?_
 refine Ow.past (O:=Own R2 Ox) (fun a z=>?_) (.inl ⟨i,hr⟩) (fun _ z=>z.elim) w1
 rcases z with ⟨j,z⟩ | z | z
 ·by_cases hj:j=i
  ·rw [if_pos hj] at z; exact .inl ⟨i,z⟩
  ·rw [if_neg hj] at z; exact .inl ⟨j,z⟩
 ·exact z.elim
 ·exact .inr z
theorem qX {x:Str} (hu:X.A.units+1 < cLine) (hN:X.N[i]?=some x) (hv:Vis X.env.scope x) (he:PE X e (tF K false ds ds1 0 fe)) (hk:PE X k (tF K false ds1 ds2 d2 fk)) (h1:ds2[i]?=some 1)
  (hdb:(x == ("__debug__" : Str))=false) (hcd:(x == ("__classdict__" : Str))=false) (hs:swapsWith e (some (.Subscript (.Name x px) k spos)) pos.line X.env=pure false) :
  PS X (.Assign [.Subscript (.Name x px) k spos] e pos) (tFS K J ds ds2 (cP i fk fe)):=(xS hu (cS hN hv hdb hcd) hk he hs).imp fun _ _ _=>yG h1
end
end L2
namespace L2
open PySem PySem.Spec PyProof.Rows
def evP:List (ME × ME)→En→Option (List (D × D) × En)
 | [],en=>some ([],en)
 | (fk,fv) :: r,en=>(fk en).bind fun x=>(fv x.2).bind fun y=>(evP r y.2).bind fun z=>(kOf x.1).map fun _=>((x.1,y.1) :: z.1,z.2)
def Ce (ks:List (D × D)):List (D × D):=ks.foldl (fun acc kv=>kC acc kv.1 kv.2) []
def fG (fs:List (ME × ME)):ME:=fun en=>(evP fs en).bind fun r=>if r.1.length≤15 then some (.dict (Ce r.1),r.2) else none
def OwP (K:PySem.W.Frag) (O:AS) (H:Hp):List (D × D)→List (V × V)→Prop
 | [],ps=>ps=[]
 | (k,t) :: r,ps=>∃ q v s,ps=(kV q,v) :: s∧k=kD q∧Ow K O H t 0 v NoA∧OwP K O H r s
section
variable {X:Cx} {K:PySem.W.Frag} {p:Bool} {J:Jd} {ds ds0 ds1 ds2 ds':List Nat} {d d' d1 d2:Nat} {a b c e o k:Expr} {es:List Expr} {f f1 f2 fk fe:ME} {fa:MA} {sh:Sh} {pos px spos:Pos} {i j:Nat} {σ:St} {H:Hp} {Q:VK} {Dn:Ends}
theorem OwP.mv {O O':AS} {H H':Hp} (m:Mv O O' NoA H H'):∀ {ks:List (D × D)} {ps:List (V × V)},OwP K O H ks ps→OwP K O' H' ks ps
 | [],_,h=>h
 | (k,t) :: r,_,h=>by
  obtain ⟨q,v,s,e1,e2,o,h⟩:=h
  exact ⟨q,v,s,e1,e2,Ow.mv m t (fun _ z=>z) o,OwP.mv m h⟩
def trs (K:PySem.W.Frag) (p:Bool) (ds:List Nat) (fs:List (ME × ME)):List (TE × TE):=fs.map fun q=>(tF K p ds ds 3 q.1,tF K p ds ds 0 q.2)
theorem xU {R R1:Nat→AS} {Ox:AS} {en en1:En} {H1:Hp} {F:AS} (P:Post K p ds1 Ox σ H en R en1 H1 R1 F):Mv (Own R Ox) (Own R1 Ox) NoA H H1:=by
 refine ⟨fun a o q z=>P.keep a o q fun i zi=>?_,fun a z=>?_⟩
 ·rcases z with z | z
  ·exact z (.inl ⟨i,zi⟩)
  ·exact z
 ·rcases z with z | z
  ·exact (P.own a (.inr z)).imp .inl id
  ·exact .inl (.inr z)
theorem nI:∀ {fs:List (ME × ME)} {σ:St} {H:Hp} {Ox:AS} {en en':En} {R:Nat→AS} {ks:List (D × D)} {QP:List (V × V)→Hp→Prop},EnvOk K ds Ox H σ en R→evP fs en=some (ks,en') →
  (∀ ps H' R',Post K p ds Ox σ H en R en' H' R' NoA→OwP K (Own R' Ox) H' ks ps→QP ps H')→jR (trs K p ds fs) σ H QP
 | [],σ,H,Ox,en,en',R,ks,QP,e,hf,k=>by
  cases hf
  exact k [] H R (Post.refl e) rfl
 | (fk,fv) :: r,σ,H,Ox,en,en',R,ks,QP,e,hf,k=>by
  unfold evP at hf
  obtain ⟨⟨t1,en1⟩,h1,hf⟩:=Option.bind_eq_some_iff.mp hf
  obtain ⟨⟨t2,en2⟩,h2,hf⟩:=Option.bind_eq_some_iff.mp hf
  obtain ⟨⟨ks3,en3⟩,h3,hf⟩:=Option.bind_eq_some_iff.mp hf
  obtain ⟨q,hq,hf⟩:=Option.map_eq_some_iff.mp hf
  cases hf
  refine ⟨Ox,en,R,t1,en1,e,h1,fun x H1 R1 F1 P1 o1=>?_⟩
  refine ⟨Ox,en1,R1,t2,en2,P1.env0,h2,fun y H2 R2 F2 P2 o2=>?_⟩
  refine nI P2.env0 h3 fun ps H3 R3 P3 op=>?_
  have PP:=(P1.after P2).after P3
  rw [Bool.and_self,Bool.and_self] at PP
  refine k _ H3 R3 PP ⟨q,y,ps,?_,mx hq,?_,op⟩
  ·rw [l8 hq o1]
  ·exact Ow.mv (xU P3) t2 (fun _ z=>z) (Ow.letgo P2 (fun _ z=>z) o2)
theorem mj {O:AS}:∀ {ks:List (D × D)} {kvs:List (Key × V)} {acc:List (D × D)} {avs:List (Key × V)},OwP K O H ks (kvs.map fun kv=>(kV kv.1,kv.2))→Owd K O H acc 0 avs NoA→Owd K O H (ks.foldl (fun acc kv=>kC acc kv.1 kv.2) acc) 0 (e9 avs kvs) NoA
 | [],kvs,acc,avs,h,ha=>by
  have:kvs=[]:=List.map_eq_nil_iff.mp h
  subst this
  exact ha
 | (k,t) :: r,kvs,acc,avs,h,ha=>by
  obtain ⟨q,v,s,e1,e2,o,h⟩:=h
  cases kvs with
  | nil=>cases e1
  | cons kv kvs =>
   rw [List.map_cons] at e1
   injection e1 with e3 e4
   injection e3 with e5 e6
   have:=Ck e5
   subst this e6 e4 e2
   exact mj (ks:=r) (kvs:=kvs) h (ha.put0 o)
theorem nr {O:AS}:∀ {ks:List (D × D)} {ps:List (V × V)},OwP K O H ks ps→∃ kvs:List (Key × V),ps=kvs.map (fun kv=>(kV kv.1,kv.2))∧kvs.length=ks.length
 | [],_,h=>⟨[],h,rfl⟩
 | (k,t) :: r,_,h=>by
  obtain ⟨q,v,s,e1,e2,o,h⟩:=h
  obtain ⟨kvs,e3,e4⟩:=nr h
  exact ⟨(q,v) :: kvs,by rw [e1,e3]; rfl,by rw [List.length_cons,List.length_cons,e4]⟩
theorem Dl {fs:List (ME × ME)} (h:tF K p ds ds 1 (fG fs) σ H Q):xf (trs K p ds fs) σ H Q:=by
 obtain ⟨Ox,en,R,t,en',e,hf,k⟩:=h
 unfold fG at hf
 obtain ⟨⟨ks,en1⟩,h1,hf⟩:=Option.bind_eq_some_iff.mp hf
 by_cases hl:ks.length≤15
 case neg=>rw [if_neg hl] at hf; cases hf
 rw [if_pos hl] at hf
 cases hf
 intro l hl0
 have n0:=bK (o:=.dK []) hl0
 have P0:Post K true ds Ox σ H en R en (upd H l (.dK [])) R (fun b=>b=l):=Post.new e n0.1 n0.2
 refine nI P0.env h1 fun ps H2 R2 P op=>?_
 obtain ⟨kvs,e1,e2⟩:=nr op
 have lO:U (fun b=>b=l) Ox l:=.inl rfl
 have hl2:H2 l=some (.dK []):=P.keep l _ aL fun i z=>by
  obtain ⟨o,q⟩:=e.dom l (.inl ⟨i,z⟩)
  rw [hl0] at q
  cases q
 have nl2:∀ i,¬ R2 i l:=fun i z=>P.env.dx i l z (.inr lO)
 refine ⟨hl2,kvs,e1,by omega,?_⟩
 have PP:=P0.trans P
 rw [Bool.true_and] at PP
 have eU:U (fun b=>b=l) NoA=(fun b=>b=l):=dG fun a=>⟨fun z=>z.elim id fun z=>z.elim,.inl⟩
 rw [eU] at PP
 have keepl:∀ a o,H2 a=some o→a≠l→upd H2 l (.dK (e9 [] kvs)) a=some o:=fun a o q n=>by rw [aM n]; exact q
 have OO:∀ a,Own R2 (U (fun b=>b=l) Ox) a→Own R2 (U (U (fun b=>b=l) Ox) NoA) a:=fun a z=>z.imp id .inl
 refine k (.ref l) _ R2 (fun b=>b=l) ⟨⟨fun j u hu=>?_,PP.env.dj,PP.env.dx,fun a z=>?_,PP.env.l1,PP.env.l2⟩,PP.fx,fun a o q n=>?_,PP.own,fun a o q=>?_,fun hp=>?_⟩ ⟨l,_,rfl,.inr ⟨by decide,aL,rfl,NoA,fun _ z=>z.elim,?_⟩⟩
 ·obtain ⟨v',d',g1,g2,g3⟩:=PP.env.at_ j u hu
  refine ⟨v',d',g1,g2,Ow.mv (G:=R2 j) ⟨fun a o q z=>keepl a o q fun za=>?_,fun a z=>.inl z⟩ u (fun _ z=>z) g3⟩
  subst za
  rcases z with z | z
  ·exact z (.inr lO)
  ·exact nl2 j z
 ·by_cases ha:a=l
  ·subst ha; exact ⟨_,aL⟩
  ·obtain ⟨o,q⟩:=PP.env.dom a z
   exact ⟨o,keepl a o q ha⟩
 ·refine keepl a o (PP.keep a o q n) fun za=>?_
  subst za
  rw [hl0] at q
  cases q
 ·obtain ⟨o',q'⟩:=PP.dom a o q
  by_cases ha:a=l
  ·subst ha; exact ⟨_,aL⟩
  ·exact ⟨o',keepl a o' q' ha⟩
 ·obtain ⟨b1,b2,b3⟩:=PP.pure hp
  refine ⟨b1,b2,fun a o q=>keepl a o (b3 a o q) fun za=>?_⟩
  subst za
  rw [hl0] at q
  cases q
 ·have op2:OwP K (Own R2 (U (fun b=>b=l) Ox)) (upd H2 l (.dK (e9 [] kvs))) ks (kvs.map fun kv=>(kV kv.1,kv.2)):=by
   rw [e1] at op
   refine OwP.mv ⟨fun a o q z=>keepl a o q fun za=>?_,fun a z=>.inl z⟩ op
   subst za
   rcases z with z | z
   ·exact z (.inr lO)
   ·exact z
  exact mj op2 rfl
theorem zm {keys:List (Option Expr)} {values:List Expr} {fs:List (ME × ME)} (h:PPs X pos keys values (trs K p ds fs)) (hall:keys.all (·.isSome)=true) (hl:keys.length=values.length) (h0:keys≠[]) (h15:keys.length≤15) :
  PE X (.Dict keys values pos) (tF K p ds ds 1 (fG fs)):=(xY h hall hl h0 h15).imp fun _ _ _=>Dl
theorem CP:PPs X pos [] [] (trs K p ds []):=xT
theorem yO {k v:Expr} {ks:List (Option Expr)} {vs:List Expr} {fk fv:ME} {fs:List (ME × ME)} (hk:PE X k (tF K p ds ds 3 fk)) (hv:PE X v (tF K p ds ds 0 fv)) (hr:PPs X pos ks vs (trs K p ds fs)):PPs X pos (some k :: ks) (v :: vs) (trs K p ds ((fk,fv) :: fs)):=qA hk hv hr
def Fu (i j:Nat) (fa:MA):MS:=fun en=>(fa en).bind fun r=>match r.1 with
 | [.inl a,.inl b]=>some (.nx ((r.2.set i (some a)).set j (some b)))
 | _=>none
end
section
variable {X:Cx} {K:PySem.W.Frag}
end
end L2
namespace L2
open PySem PySem.Spec PyProof.Rows
section
variable {X:Cx} {K:PySem.W.Frag} {O:AS} {H:Hp} {ts us:List D} {vs ws:List V} {x y:V} {d:Nat} {Q:VK}
def DN (K:PySem.W.Frag):List V→Hp→VK→Prop:=fun xs H Q=>∃ (p:Addr) (ns:List Int),xs=[.ref p]∧SqL K H p (ns.map V.int)∧Q (.int ns.sum) H
theorem p6 (hc:X.calm=true):CallR X (.builtin "sum") (DN X.K):=by
 intro pins s σ H xs us Q I r h
 obtain ⟨p,ns,rfl,hp,q⟩:=h
 obtain ⟨u,rfl,ru⟩:=cz r
 cases ru
 obtain ⟨its,rv,pl,hz⟩:=I.list hp
 have hl:its.length=ns.length:=by rw [← rv.length,List.length_map]
 have hlt:p < s.heap.objs.size:=by
  obtain ⟨o,n,e,_⟩:=id pl
  exact Heap.lt_size e
 have hsz:its.toArray.size=ns.length:=by rw [List.size_toArray,hl]
 refine call_sum_walkAnyS (wpAny_pyIter_list pl.isList ?_)
 refine ⟨s.heap.objs.size,[s.heap.objs.size,p],[s.heap.objs.size],_,its.toArray.size,fun i v=>its.toArray[i]?=some v,_,fun i=>ns.getD i 0,rfl,(Walks.list (A:=X.A.in1) (show X.A.in1.handled=none from I.ok.hd hc) s.heap.objs.size p (Nat.ne_of_lt hlt) its.toArray).toS,?_,?_,?_,?_⟩
 ·exact ⟨⟨_,Heap.get?_push_size _ rfl,rfl,rfl⟩,pl.isList.push _⟩
 ·intro b hb
  show b < (s.heap.push _).objs.size
  rw [Heap.size_push]
  have hb':b=s.heap.objs.size∨b=p:=by simpa using hb
  rcases hb' with rfl | rfl
  ·exact Nat.lt_succ_self _
  ·exact Nat.lt_succ_of_lt hlt
 ·intro i v hv
  have hv':its[i]?=some v:=by simpa using hv
  have hi:i < ns.length:=by
   rw [← hl]
   exact (List.getElem?_eq_some_iff.mp hv').1
  obtain ⟨u,hu,ru⟩:=rv.get (i:=i) (x:=V.int ns[i]) (by rw [List.getElem?_map,List.getElem?_eq_getElem hi]; rfl)
  rw [hu] at hv'
  cases hv'
  obtain ⟨t,rfl⟩:=ru
  refine ⟨t,?_⟩
  show Value.int ns[i] t=Value.int (ns.getD i 0) t
  rw [List.getD_eq_getElem?_getD,List.getElem?_eq_getElem hi]
  rfl
 ·intro s' t' hm
  have e:preSum (fun i=>ns.getD i 0) its.toArray.size=ns.sum:=by
   rw [hsz,gn ns ns.length (Nat.le_refl _),List.take_length]
  rw [e]
  obtain ⟨hh,g,dr,tk,os'⟩:=s'
  have e1:dr=s.drawn:=hm.drawn
  have e2:os'=s.os:=hm.os
  have e3:g=s.gens:=hm.gens
  subst e1 e2 e3
  refine ⟨.int ns.sum,H,I.kept (t':=tk) fun b o z=>hm.heap b o ?_ (Heap.get?_push_of_some _ z),⟨_,rfl⟩,q⟩
  intro z'
  have z'':b=s.heap.objs.size:=by simpa using z'
  exact Nat.ne_of_lt (Heap.lt_size z) z''
def gO:List D→Option (List Int)
 | []=>some []
 | .int i :: r=>(gO r).map (i :: ·)
 | _ :: _=>none
theorem l7:∀ {ts:List D} {vs:List V} {bs:List Int},Ows K O H ts 0 vs NoA→gO ts=some bs→vs=bs.map V.int
 | [],_,_,h,hb=>by cases hb; exact h
 | .int b :: r,_,_,h,hb=>by
  obtain ⟨v,w,F1,F2,e,_,_,_,h4,h5⟩:=h
  obtain ⟨bs',h6,h7⟩:=Option.map_eq_some_iff.mp hb
  subst e h7
  rw [show v=.int b from h4,l7 (Ows.any0 r h5) h6]
  rfl
 | .none :: _,_,_,_,hb=>by cases hb
 | .bool _ :: _,_,_,_,hb=>by cases hb
 | .str _ :: _,_,_,_,hb=>by cases hb
 | .list _ :: _,_,_,_,hb=>by cases hb
 | .tuple _ :: _,_,_,_,hb=>by cases hb
 | .dict _ :: _,_,_,_,hb=>by cases hb
def iJ:List D→Option D
 | [.list ts]=>(gO ts).map fun ns=>.int ns.sum
 | _=>none
theorem pL (hK:X.K=K) (hc:X.calm=true):CallR X (.builtin "sum") (rFn K iJ 3):=by
 subst hK
 refine (p6 hc).imp fun xs H Q ⟨O,as,t,oa,hd,hg,k⟩=>?_
 match as,hg with
 | [.list ts],hg =>
  obtain ⟨ns,h1,rfl⟩:=Option.map_eq_some_iff.mp hg
  obtain ⟨v,rfl,o⟩:=oa.one
  obtain ⟨a,vs,rfl,fz,w⟩:=o.lst0
  have e:=l7 w h1
  subst e
  exact ⟨a,ns,rfl,fz.sq,k _ H NoA .refl rfl⟩
end
end L2
namespace L2
open PySem PySem.Spec PyProof.Rows
section
variable {X:Cx} {K:PySem.W.Frag} {p:Bool} {ds ds1:List Nat} {O:AS} {H:Hp} {σ:St} {d:Nat} {f:ME} {i:Nat} {e:Expr} {Q:VK}
end
end L2
namespace L2
open PySem PySem.Spec PyProof.Rows
section
variable {X:Cx} {K:PySem.W.Frag} {p:Bool} {ds ds1:List Nat} {d:Nat} {fa:MA} {sh:Sh} {O O1:AS} {H0 H:Hp} {ts us:List D} {vs ws:List V} {a b:Addr}
def eB (ts us:List D):List D:=List.zipWith (fun x y=>.tuple [x,y]) ts us
theorem B8 {t u:D} {v w:V} {q:Addr} (hp:H q=none) (h3:∀ a,O1 a→∃ o,H a=some o) (ov:Ow K O1 H t 0 v NoA) (ow:Ow K O1 H u 0 w NoA):(∀ a o,H a=some o→upd H q (.tup [v,w]) a=some o)∧Ow K O1 (upd H q (.tup [v,w])) (.tuple [t,u]) 0 (.ref q) NoA:=by
 have g:=(bK (o:=.tup [v,w]) hp).1
 refine ⟨g,q,[v,w],rfl,.inl ⟨rfl,⟨aL,fun z=>?_⟩,v,[w],NoA,NoA,rfl,fun _ z=>z,fun _ z=>z,fun _ z=>z.elim,?_,w,[],NoA,NoA,rfl,fun _ z=>z,fun _ z=>z,fun _ z=>z.elim,?_,rfl⟩⟩
 ·obtain ⟨o,e⟩:=h3 q z
  rw [hp] at e
  cases e
 ·exact Ow.mv (G:=NoA) ⟨fun a o e _=>g a o e,fun a z=>.inl z⟩ t (fun _ z=>z) ov
 ·exact Ow.mv (G:=NoA) ⟨fun a o e _=>g a o e,fun a z=>.inl z⟩ u (fun _ z=>z) ow
theorem qi (h:FzL K O H0 a vs) (ho:Ows K O H0 ts 0 vs NoA) (h':FzL K O H0 b ws) (ho':Ows K O H0 us 0 ws NoA):kJ K O H0 (Itz K a b) (eB ts us):=fun i H O1 h1 h2 h3=>by
 have sq:=(h.mv (dN h1 h2)).sq
 have sq':=(h'.mv (dN h1 h2)).sq
 refine ⟨fun u hu=>?_,fun hl=>⟨vs,ws,sq,sq',?_⟩⟩
 ·unfold eB at hu
  rw [List.getElem?_zipWith] at hu
  split at hu
  case h_2=>cases hu
  next t t' ht ht' =>
  cases hu
  obtain ⟨v,hv,ov⟩:=ho.get ht
  obtain ⟨w,hw,ow⟩:=ho'.get ht'
  refine ⟨⟨vs,ws,v,w,sq,sq',hv,hw⟩,fun x H1 ⟨q,v',w',e1,hp,e2,y1,y2⟩=>?_⟩
  have e3:=y1 vs sq
  have e4:=y2 ws sq'
  rw [hv] at e3
  rw [hw] at e4
  cases e3
  cases e4
  subst e1 e2
  exact B8 hp h3 (Ow.mv (dN h1 h2) t (fun _ z=>z) ov) (Ow.mv (dN h1 h2) t' (fun _ z=>z) ow)
 ·unfold eB at hl
  rw [List.length_zipWith] at hl
  rw [ho.len,ho'.len]
  omega
def jf (fa:MA):MI:=fun en=>(fa en).bind fun r=>match r.1 with
 | [.inl (.list ts),.inl (.list us)]=>some (eB ts us,r.2)
 | _=>none
theorem CU {l m:Expr} {px pos:Pos} {elts:List Expr} {k:Nat} {tp:Pos} (hK:X.K=K) (hg:Gl X "zip") (hm:X.mg "zip"=none) (ha:PA X [l,m] (tFA K p ds ds1 sh fa)) (hs:aK l=true) (hs2:aK m=true) :
  PI X (.Tuple elts k tp) (.Call (.Name "zip" px) [l,m] [] pos) (tFI K p ds ds1 (jf fa)) :=
 (yp hK hg hm ha (by rw [bm hs]) (by rw [bm hs2]; rfl)).imp fun σ H R ⟨Ox,en,Rg,ts,en',e,hf,k⟩=>by
  unfold jf at hf
  obtain ⟨⟨as,en1⟩,h1,hf⟩:=Option.bind_eq_some_iff.mp hf
  refine ⟨Ox,en,Rg,as,en1,e,h1,fun vs H1 R1 F P o=>?_⟩
  dsimp only at hf
  split at hf
  case h_2=>cases hf
  next t1 t2 =>
  cases hf
  obtain ⟨v,r,d,dr,F1,F2,e1,e2,s1,s2,_,o1,v2,r2,d2,dr2,G1,G2,e3,e4,s3,_,_,o2,o3⟩:=o
  obtain ⟨_,o3⟩:=o3
  subst e1 e3 o3
  have q1:=Ow.letgo P s1 o1
  have q2:=Ow.letgo P (fun b z=>s2 b (s3 b z)) o2
  obtain ⟨a,xs,f1,⟨_,fz,ow⟩ | ⟨z,_⟩⟩:=q1
  ·obtain ⟨b,ys,f2,⟨_,fz2,ow2⟩ | ⟨z,_⟩⟩:=q2
   ·subst f1 f2
    exact ⟨a,b,rfl,⟨xs,fz.sq⟩,⟨ys,fz2.sq⟩,k _ H1 R1 (P.less fun _ z=>z.elim) (qi fz ow fz2 ow2)⟩
   ·exact absurd rfl z
  ·exact absurd rfl z
end
end L2
namespace L2
open PySem PySem.Spec PyProof.Rows
section
variable {X:Cx} {K:PySem.W.Frag} {p:Bool} {ds ds1:List Nat} {d1:Nat} {e:Expr} {f:ME}
end
end L2
namespace L2
open PySem PySem.Spec PyProof.Rows
section
variable {X:Cx} {K:PySem.W.Frag} {p p1 p2:Bool} {ds ds1 ds2:List Nat} {d d1:Nat} {e:Expr} {f:ME} {fa:MA} {sh:Sh} {σ:St} {H:Hp} {Q:VK}
def eM (g:Str→List D→Option D) (f:ME) (fa:MA):ME:=fun en=>(f en).bind fun r=>match r.1 with
 | .str z=>(fa r.2).bind fun q=>(bz q.1).bind fun ts=>(g z ts).map fun t=>(t,q.2)
 | _=>none
def Fo:Str→List D→Option D
 | sep,[.list ts]=>(strsOf ts).bind fun ys=>if sep.length≤16∧(ys.map (·.length)).sum+ys.length≤1048576 then some (.str (Txt.join sep ys)) else none
 | sep,[.tuple ts]=>(strsOf ts).bind fun ys=>if sep.length≤16∧(ys.map (·.length)).sum+ys.length≤1048576 then some (.str (Txt.join sep ys)) else none
 | _,_=>none
where strsOf:List D→Option (List Str)
 | []=>some []
 | .str z :: r=>(strsOf r).map (z :: ·)
 | _ :: _=>none
def E2:Str→List D→Option D
 | z,[.str y]=>some (.bool (Txt.startswith z y))
 | _,_=>none
def Fp:Str→List D→Option D
 | z,[.str y]=>some (.bool (Txt.endswith z y))
 | _,_=>none
end
end L2
namespace L2
open PySem PySem.Spec PyProof.Rows
section
variable {X:Cx} {K:PySem.W.Frag} {pins:List (Addr × Obj)} {σ:St} {H:Hp} {s:Shared} {O:AS}
mutual
theorem Ow.reads (I:Inv X pins σ H s):∀ (t:D) {v:V} {u:Value},aw t=true→Ow X.K O H t 0 v NoA→RelV v u→∃ as,Reads s.heap u t as
 | .none,_,_,_,h,r=>by
  cases (show _=V.non from h)
  cases r
  exact ⟨_,.none⟩
 | .bool b,_,_,_,h,r=>by
  cases (show _=V.bl b from h)
  cases r
  exact ⟨_,.bool _⟩
 | .int i,_,_,_,h,r=>by
  cases (show _=V.int i from h)
  obtain ⟨t,rfl⟩:=r
  exact ⟨_,.int _ _⟩
 | .str x,_,_,_,h,r=>by
  cases (show _=V.str x from h)
  obtain ⟨t,rfl⟩:=r
  exact ⟨_,.str _ _⟩
 | .list ts,_,_,hn,h,r=>by
  obtain ⟨p,vs,rfl,fz,w⟩:=h.lst0
  cases r
  obtain ⟨its,rv,⟨o,n,e1,e2,_,e3⟩,_⟩:=I.list fz.sq
  obtain ⟨as,ra⟩:=Ows.reads I ts (by simpa [aw] using hn) w rv
  exact ⟨_,.list e1 e2 e3 (by simpa using ra)⟩
 | .tuple ts,_,_,hn,h,r=>by
  obtain ⟨p,vs,rfl,fz,w⟩:=h.tup0
  cases r
  obtain ⟨its,rv,⟨o,e1,e2,n,e3⟩,_⟩:=I.tuple fz.sq
  obtain ⟨as,ra⟩:=Ows.reads I ts (by simpa [aw] using hn) w rv
  exact ⟨_,.tuple e1 e2 e3 (by simpa using ra)⟩
 | .dict _,_,_,hn,_,_=>by simp [aw] at hn
theorem Ows.reads (I:Inv X pins σ H s):∀ (ts:List D) {vs:List V} {us:List Value},aE ts=true→Ows X.K O H ts 0 vs NoA→Vals vs us→∃ as,ReadsAll s.heap us ts as
 | [],_,_,_,h,r=>by
  cases (show _=[] from h)
  cases r
  exact ⟨_,.nil⟩
 | t :: ts,_,_,hn,h,r=>by
  obtain ⟨v,q,F1,F2,e,_,_,_,h4,h5⟩:=h
  subst e
  have hn':aw t=true∧aE ts=true:=by simpa [aE] using hn
  cases r with
  | cons ru rr =>
   obtain ⟨as,a1⟩:=Ow.reads I t hn'.1 (Ow.any0 t h4) ru
   obtain ⟨bs,a2⟩:=Ows.reads I ts hn'.2 (Ows.any0 ts h5) rr
   exact ⟨_,.cons a1 a2⟩
end
mutual
theorem ie:∀ t:D,aw t=true→t.hasDict=false
 | .none,_=>by simp only [PyData.hasDict]
 | .bool _,_=>by simp only [PyData.hasDict]
 | .int _,_=>by simp only [PyData.hasDict]
 | .str _,_=>by simp only [PyData.hasDict]
 | .list ts,h=>by simp only [PyData.hasDict]; exact gq ts (by simpa [aw] using h)
 | .tuple ts,h=>by simp only [PyData.hasDict]; exact gq ts (by simpa [aw] using h)
 | .dict _,h=>by simp [aw] at h
theorem gq:∀ ts:List D,aE ts=true→PyData.hasDictAll ts=false
 | [],_=>by simp only [PyData.hasDictAll]
 | t :: ts,h=>by
  have h':aw t=true∧aE ts=true:=by simpa [aE] using h
  simp only [PyData.hasDictAll,ie t h'.1,gq ts h'.2,Bool.or_self]
end
def nT:List D→Option D
 | [.dict []]=>some (.str "{}")
 | [t]=>grd (aw t=true∧t.showable=true∧t.depth≤60∧t.shown.length≤sizeLine) (.str t.shown)
 | _=>none
theorem yT (hK:X.K=K) (hg:X.A.guards=some []) (hu:X.A.units+64 < cLine):CallR X (.builtin "repr") (rFn K nT 3):=by
 subst hK
 intro pins s σ H xs us Q I r ⟨O,as,t,oa,hd,hr,k⟩
 unfold nT at hr
 split at hr
 ·cases hr
  obtain ⟨v,rfl,o⟩:=oa.one
  obtain ⟨a,vs,rfl,⟨_,g1,_,g2⟩ | ⟨z,_⟩⟩:=o
  ·have e:vs=[]:=g2
   subst e
   exact oJ hg hu pins s σ H _ us Q I r ⟨_,_,rfl,.inr ⟨a,rfl,g1,rfl⟩,k _ H NoA .refl rfl⟩
  ·exact absurd rfl z
 ·next d hne =>
  obtain ⟨⟨c1,c2,c3,c4⟩,rfl⟩:=dJ hr
  obtain ⟨v,rfl,o⟩:=oa.one
  obtain ⟨u,rfl,ru⟩:=cz r
  obtain ⟨as,rd⟩:=Ow.reads I d c1 o ru
  have q:=k (.str d.shown) H NoA .refl rfl
  cases d with
  | none =>
   cases (show v=V.non from o)
   cases ru
   have e:(PyData.none).shown=("None" : Str):=PyData.shown_none
   rw [e] at q
   exact P.repr_of_none ⟨.str _,H,I.tok _,⟨_,rfl⟩,q⟩
  | bool b =>
   cases (show v=V.bl b from o)
   cases ru
   have e:(PyData.bool b).shown=(if b then "True" else "False" : Str):=PyData.shown_bool b
   rw [e] at q
   exact P.repr_of_bool ⟨.str (if b then "True" else "False"),H,I.tok _,⟨_,rfl⟩,q⟩
  | int i =>
   cases (show v=V.int i from o)
   obtain ⟨t,rfl⟩:=ru
   have e:(PyData.int i).shown=((toString i:String):Str):=PyData.shown_int i
   rw [e] at q
   have hl:i.natAbs.log2 < 1920:=by simpa [PyData.showable] using c2
   exact P.repr_of_int hl ⟨.str _,H,I.tok _,⟨_,rfl⟩,q⟩
  | str y =>
   cases (show v=V.str y from o)
   obtain ⟨t,rfl⟩:=ru
   have e:(PyData.str y).shown=reprText y:=PyData.shown_str y
   rw [e] at q c4
   exact P.repr_of_str ⟨.str _,H,I.tok _,⟨_,rfl⟩,q⟩ c4
  | list ts =>
   obtain ⟨p,vs,rfl,_,_⟩:=o.lst0
   cases ru
   exact repr_of_reads' rd c2 (PyData.noDict_hsm (ie _ c1)) hg (by omega) (fun _ _ e=>e) (fun h' u tk hk=>⟨.str _,H,I.kept (t':=tk) hk,⟨_,rfl⟩,q⟩) c4
  | tuple ts =>
   obtain ⟨p,vs,rfl,_,_⟩:=o.tup0
   cases ru
   exact repr_of_reads' rd c2 (PyData.noDict_hsm (ie _ c1)) hg (by omega) (fun _ _ e=>e) (fun h' u tk hk=>⟨.str _,H,I.kept (t':=tk) hk,⟨_,rfl⟩,q⟩) c4
  | dict _=>simp [aw] at c1
 ·cases hr
end
section
open PySem.SeqAt Classical
variable {X:Cx} {K:PySem.W.Frag} {pins:List (Addr × Obj)} {σ:St} {H:Hp} {s:Shared} {O:AS}
end
end L2
namespace L2
open PySem PySem.Spec PyProof.Rows
def dns:Nat→Nat→Nat
 | 0,d=>d
 | m+1,d=>dns m (dn d)
theorem mQ:∀ m,dns m 0=0
 | 0=>rfl
 | m+1=>mQ m
theorem Dt {m d:Nat} (h:dns m d≠0):d≠0:=fun z=>h (by rw [z]; exact mQ m)
def cI:D→List Nat→Option D
 | t,[]=>some t
 | .list ts,k :: π=>(ts[k]?).bind fun u=>cI u π
 | .tuple ts,k :: π=>(ts[k]?).bind fun u=>cI u π
 | _,_ :: _=>none
def cH:D→List Nat→D→D
 | _,[],u=>u
 | .list ts,k :: π,u=>.list (ts.set k ((ts[k]?).elim .none fun c=>cH c π u))
 | .tuple ts,k :: π,u=>.tuple (ts.set k ((ts[k]?).elim .none fun c=>cH c π u))
 | t,_ :: _,_=>t
def PathV (H:Hp):V→List Nat→V→Prop
 | v,[],w=>v=w
 | v,k :: π,w=>∃ a vs u,v=.ref a∧(H a=some (.lst vs)∨H a=some (.tup vs))∧vs[k]?=some u∧PathV H u π w
theorem PathV.mono {H H':Hp} (hk:∀ a o,H a=some o→H' a=some o):∀ {π:List Nat} {v w:V},PathV H v π w→PathV H' v π w
 | [],_,_,h=>h
 | _ :: _,_,_,⟨a,vs,u,e,h1,h2,h3⟩=>⟨a,vs,u,e,h1.imp (hk _ _) (hk _ _),h2,h3.mono hk⟩
theorem PathV.det {H:Hp}:∀ {π:List Nat} {v w w':V},PathV H v π w→PathV H v π w'→w=w'
 | [],_,_,_,h,g=>h.symm.trans g
 | _ :: _,_,_,_,⟨a,vs,u,e,h1,h2,h3⟩,⟨a',vs',u',e',g1,g2,g3⟩=>by
  rw [e] at e'
  cases e'
  have:vs=vs':=by
   rcases h1 with h1 | h1 <;> rcases g1 with g1 | g1 <;> rw [h1] at g1 <;> cases g1 <;> rfl
  subst this
  rw [h2] at g2
  cases g2
  exact h3.det g3
theorem PathV.snoc {H:Hp} {a:Addr} {vs:List V} {u:V} {k:Nat} (h1:H a=some (.lst vs)∨H a=some (.tup vs)) (h2:vs[k]?=some u):∀ {π:List Nat} {v:V},PathV H v π (.ref a)→PathV H v (π++[k]) u
 | [],_,h=>⟨a,vs,u,h,h1,h2,rfl⟩
 | _ :: _,_,⟨a',vs',u',e,g1,g2,g3⟩=>⟨a',vs',u',e,g1,g2,PathV.snoc h1 h2 g3⟩
section
variable {K:PySem.W.Frag} {O:AS} {H:Hp}
theorem Ows.zoom {d:Nat}:∀ {ts:List D} {vs:List V} {F:AS} {k:Nat} {u:D},Ows K O H ts d vs F→ts[k]?=some u →
  ∃ w,∃ F1 F2:AS,vs[k]?=some w∧(∀ b,F1 b→F b)∧(∀ b,F2 b→F b)∧(∀ b,F1 b→¬ F2 b)∧Ow K O H u d w F1 ∧
   ∀ (O':AS) (H':Hp) (u':D) (G:AS),Mv O O' F2 H H'→(∀ b,G b→¬ F2 b)→Ow K O' H' u' d w G→Ows K O' H' (ts.set k u') d vs (fun b=>F2 b∨G b)
 | [],_,_,k,u,_,h=>by simp at h
 | t :: ts,_,F,k,u,h,hk=>by
  obtain ⟨v,r,F1,F2,e,s1,s2,s3,h4,h5⟩:=h
  subst e
  cases k with
  | zero =>
   have:t=u:=by simpa using hk
   subst this
   refine ⟨v,F1,F2,rfl,s1,s2,s3,h4,fun O' H' u' G m hd o=>?_⟩
   exact ⟨v,r,G,F2,rfl,fun _ z=>.inr z,fun _ z=>.inl z,hd,o,Ows.mv m ts (fun _ z=>z) h5⟩
  | succ k =>
   obtain ⟨w,G1,G2,g1,g2,g3,g4,g5,g6⟩:=Ows.zoom (k:=k) h5 (by simpa using hk)
   refine ⟨w,G1,fun b=>F1 b∨G2 b,by simpa using g1,fun b z=>s2 b (g2 b z),fun b z=>z.elim (s1 b) fun z=>s2 b (g3 b z),fun b z z2=>?_,g5,fun O' H' u' G m hd o=>?_⟩
   ·rcases z2 with z2 | z2
    ·exact s3 b z2 (g2 b z)
    ·exact g4 b z z2
   ·refine ⟨v,r,F1,fun b=>G2 b∨G b,rfl,fun b z=>.inl (.inl z),fun b z=>z.imp .inr id,fun b z z2=>?_,Ow.mv ⟨m.k,m.o⟩ t (fun b z=>.inl z) h4,g6 O' H' u' G ⟨fun a o q z=>m.k a o q (z.imp id .inr),m.o⟩ (fun b z z2=>hd b z (.inr z2)) o⟩
    rcases z2 with z2 | z2
    ·exact s3 b z (g3 b z2)
    ·exact hd b z2 (.inl z)
theorem Ow.zoom:∀ {π:List Nat} {t u:D} {d:Nat} {v:V} {F:AS},Ow K O H t d v F→cI t π=some u→dns π.length d≠0 →
  ∃ w,∃ F1 Fr:AS,PathV H v π w∧(∀ b,F1 b→F b)∧(∀ b,Fr b→F b)∧(∀ b,F1 b→¬ Fr b)∧Ow K O H u (dns π.length d) w F1 ∧
   ∀ (O':AS) (H':Hp) (u':D) (G:AS),Mv O O' Fr H H'→(∀ b,G b→¬ Fr b)→Ow K O' H' u' (dns π.length d) w G→Ow K O' H' (cH t π u') d v (fun b=>Fr b∨G b)
 | [],t,u,d,v,F,h,hp,hz=>by
  cases hp
  refine ⟨v,F,NoA,rfl,fun _ z=>z,fun _ z=>z.elim,fun _ _ z=>z,h,fun O' H' u' G m hd o=>?_⟩
  have e:(fun b=>NoA b∨G b)=G:=dG fun b=>⟨fun z=>z.elim (fun z=>z.elim) id,.inr⟩
  rw [e]
  exact o
 | k :: π,t,u,d,v,F,h,hp,hz=>by
  have hz1:dns π.length (dn d)≠0:=hz
  have hd0:d≠0:=Dt (m:=π.length+1) hz
  cases t with
  | list ts =>
   obtain ⟨c,p1,p2⟩:=Option.bind_eq_some_iff.mp hp
   obtain ⟨a,vs,e,⟨h0,_⟩ | ⟨_,h1,h2,F',hf,h3⟩⟩:=h
   ·exact absurd h0 hd0
   obtain ⟨w,G1,G2,g1,g2,g3,g4,g5,g6⟩:=h3.zoom p1
   obtain ⟨w2,F1,Fr,q1,q2,q3,q4,q5,q6⟩:=Ow.zoom g5 p2 hz1
   refine ⟨w2,F1,fun b=>b=a∨G2 b∨Fr b,⟨a,vs,w,e,.inl h1,g1,q1⟩,fun b z=>(hf b (g2 b (q2 b z))).1,fun b z=>?_,fun b z z2=>?_,q5,fun O' H' u' G m hd o=>?_⟩
   ·rcases z with z | z | z
    ·rw [z]; exact h2
    ·exact (hf b (g3 b z)).1
    ·exact (hf b (g2 b (q3 b z))).1
   ·rcases z2 with z2 | z2 | z2
    ·exact (hf b (g2 b (q2 b z))).2 z2
    ·exact g4 b (q2 b z) z2
    ·exact q4 b z z2
   ·have o1:=q6 O' H' u' G ⟨fun x y q z=>m.k x y q (z.imp id fun z=>.inr (.inr z)),m.o⟩ (fun b z z2=>hd b z (.inr (.inr z2))) o
    have o2:=g6 O' H' (cH c π u') (fun b=>Fr b∨G b) ⟨fun x y q z=>m.k x y q (z.imp id fun z=>.inr (.inl z)),m.o⟩ (fun b z z2=>?_) o1
    ·refine ⟨a,vs,e,.inr ⟨hd0,m.k _ _ h1 (.inr (.inl rfl)),.inl (.inl rfl),fun b=>G2 b∨Fr b∨G b,fun b z=>?_,?_⟩⟩
     ·rcases z with z | z | z
      ·exact ⟨.inl (.inr (.inl z)),(hf b (g3 b z)).2⟩
      ·exact ⟨.inl (.inr (.inr z)),(hf b (g2 b (q3 b z))).2⟩
      ·exact ⟨.inr z,fun ze=>hd b z (.inl ze)⟩
     ·rw [p1]
      exact o2
    ·rcases z with z | z
     ·exact g4 b (q3 b z) z2
     ·exact hd b z (.inr (.inl z2))
  | tuple ts =>
   obtain ⟨c,p1,p2⟩:=Option.bind_eq_some_iff.mp hp
   obtain ⟨a,vs,e,⟨h0,_⟩ | ⟨_,h1,h2,F',hf,h3⟩⟩:=h
   ·exact absurd h0 hd0
   obtain ⟨w,G1,G2,g1,g2,g3,g4,g5,g6⟩:=h3.zoom p1
   obtain ⟨w2,F1,Fr,q1,q2,q3,q4,q5,q6⟩:=Ow.zoom g5 p2 hz1
   refine ⟨w2,F1,fun b=>b=a∨G2 b∨Fr b,⟨a,vs,w,e,.inr h1,g1,q1⟩,fun b z=>(hf b (g2 b (q2 b z))).1,fun b z=>?_,fun b z z2=>?_,q5,fun O' H' u' G m hd o=>?_⟩
   ·rcases z with z | z | z
    ·rw [z]; exact h2
    ·exact (hf b (g3 b z)).1
    ·exact (hf b (g2 b (q3 b z))).1
   ·rcases z2 with z2 | z2 | z2
    ·exact (hf b (g2 b (q2 b z))).2 z2
    ·exact g4 b (q2 b z) z2
    ·exact q4 b z z2
   ·have o1:=q6 O' H' u' G ⟨fun x y q z=>m.k x y q (z.imp id fun z=>.inr (.inr z)),m.o⟩ (fun b z z2=>hd b z (.inr (.inr z2))) o
    have o2:=g6 O' H' (cH c π u') (fun b=>Fr b∨G b) ⟨fun x y q z=>m.k x y q (z.imp id fun z=>.inr (.inl z)),m.o⟩ (fun b z z2=>?_) o1
    ·refine ⟨a,vs,e,.inr ⟨hd0,m.k _ _ h1 (.inr (.inl rfl)),.inl (.inl rfl),fun b=>G2 b∨Fr b∨G b,fun b z=>?_,?_⟩⟩
     ·rcases z with z | z | z
      ·exact ⟨.inl (.inr (.inl z)),(hf b (g3 b z)).2⟩
      ·exact ⟨.inl (.inr (.inr z)),(hf b (g2 b (q3 b z))).2⟩
      ·exact ⟨.inr z,fun ze=>hd b z (.inl ze)⟩
     ·rw [p1]
      exact o2
    ·rcases z with z | z
     ·exact g4 b (q3 b z) z2
     ·exact hd b z (.inr (.inl z2))
  | _=>cases hp
end
abbrev MP:=En→Option (List Nat × En)
def tP (K:PySem.W.Frag) (p:Bool) (ds ds':List Nat) (i m:Nat) (mp:MP):TE:=fun σ H Q =>
 ∃ Ox en R π en',EnvOk K ds Ox H σ en R∧mp en=some (π,en')∧∀ v w H' R',Post K p ds' Ox σ H en R en' H' R' NoA→π.length=m→σ[i]?=some (some v)→PathV H' v π w→Q w H'
def fQ (i:Nat):MP:=fun en=>((en[i]?).join).map fun _=>([],en)
def pIx (i:Nat) (mp:MP) (f:ME):MP:=fun en=>(mp en).bind fun r=>(f r.2).bind fun q=>match q.1,(q.2[i]?).join with
 | .int n,some t=>(cI t r.1).bind fun u=>match u with
  | .list ts=>(ixN ts.length n).bind fun k=>if k < ts.length then some (r.1++[k],q.2) else none
  | .tuple ts=>(ixN ts.length n).bind fun k=>if k < ts.length then some (r.1++[k],q.2) else none
  | _=>none
 | _,_=>none
section
variable {X:Cx} {K:PySem.W.Frag} {p p1 p2:Bool} {J:Jd} {ds ds1 ds2:List Nat} {H:Hp} {σ:St} {d d1 d2 i m:Nat} {f fk fe:ME} {mp:MP} {e b o:Expr} {Q:VK}
theorem Di (h:tP K true ds ds i 0 (fQ i) σ H Q):eE i σ H Q:=by
 obtain ⟨Ox,en,R,π,en',e,hf,k⟩:=h
 unfold fQ at hf
 obtain ⟨t,h1,h2⟩:=Option.map_eq_some_iff.mp hf
 cases h2
 obtain ⟨v,d,a1,_,_⟩:=e.at_ i t (a9 h1)
 exact ⟨v,a1,k v v H R (Post.refl e) rfl a1 rfl⟩
theorem Et (hpu:p2=true∨m=0) (hd:ds2[i]?=some d) (hz:dns m d≠0) (h:tP K (p1 && p2) ds ds2 i (m+1) (pIx i mp f) σ H Q):tOp (rIx K) (tP K p1 ds ds1 i m mp) (tF K p2 ds1 ds2 d1 f) σ H Q:=by
 obtain ⟨Ox,en,R,π,en',e,hf,k⟩:=h
 unfold pIx at hf
 obtain ⟨⟨π0,en1⟩,h1,hf⟩:=Option.bind_eq_some_iff.mp hf
 obtain ⟨⟨t1,en2⟩,h2,hf⟩:=Option.bind_eq_some_iff.mp hf
 dsimp only at hf
 split at hf
 case h_2=>cases hf
 next n t h3 =>
 obtain ⟨u,h4,hf⟩:=Option.bind_eq_some_iff.mp hf
 refine ⟨Ox,en,R,π0,en1,e,h1,fun v w H1 R1 P1 hl hv pv=>?_⟩
 refine ⟨Ox,en1,R1,.int n,en2,P1.env0,h2,fun y H2 R2 F P2 o=>?_⟩
 have ey:y=.int n:=o
 subst ey
 have P:=P1.after P2
 obtain ⟨v',d',b1,b2,b3⟩:=P.env.at_ i t (a9 h3)
 rw [hv] at b1
 cases b1
 rw [hd] at b2
 cases b2
 have pv2:PathV H2 v π0 w:=by
  rcases hpu with hp | hm
  ·exact pv.mono (P2.pure hp).2.2
  ·have e0:π0=[]:=List.length_eq_zero_iff.mp (hl.trans hm)
   subst e0
   exact pv
 obtain ⟨w2,F1,Fr,q1,q2,q3,q4,q5,_⟩:=b3.zoom h4 (by rw [hl]; exact hz)
 have ew:=pv2.det q1
 subst ew
 rw [hl] at q5
 cases u with
 | list ts =>
  obtain ⟨kk,h5,hf⟩:=Option.bind_eq_some_iff.mp hf
  by_cases hk:kk < ts.length
  case neg=>rw [if_neg hk] at hf; cases hf
  rw [if_pos hk] at hf
  cases hf
  obtain ⟨a,vs,ea,ha,_,F',_,ow⟩:=q5.ownL hz
  obtain ⟨x,g1,_⟩:=ow.get (List.getElem?_eq_getElem hk)
  refine .inl ⟨a,vs,n,x,ea,rfl,SqL.of ha,by unfold atI; rw [ow.len,h5]; exact g1,?_⟩
  subst ea
  exact k v x H2 R2 (P.less fun _ z=>z.elim) (by rw [List.length_append,hl]; rfl) hv (PathV.snoc (.inl ha) g1 q1)
 | tuple ts =>
  obtain ⟨kk,h5,hf⟩:=Option.bind_eq_some_iff.mp hf
  by_cases hk:kk < ts.length
  case neg=>rw [if_neg hk] at hf; cases hf
  rw [if_pos hk] at hf
  cases hf
  obtain ⟨a,vs,ea,⟨h0,_⟩ | ⟨_,ha,_,F',_,ow⟩⟩:=q5
  ·exact absurd h0 hz
  obtain ⟨x,g1,_⟩:=ow.get (List.getElem?_eq_getElem hk)
  refine .inr (.inl ⟨a,vs,n,x,ea,rfl,SqT.of ha,by unfold atI; rw [ow.len,h5]; exact g1,?_⟩)
  subst ea
  exact k v x H2 R2 (P.less fun _ z=>z.elim) (by rw [List.length_append,hl]; rfl) hv (PathV.snoc (.inr ha) g1 q1)
 | _=>cases hf
theorem yN {x:Str} {px:Pos} (hN:X.N[i]?=some x) (hv:Vis X.env.scope x) (hd:(x == ("__debug__" : Str))=false) (hcd:(x == ("__classdict__" : Str))=false):PE X (.Name x px) (tP K true ds ds i 0 (fQ i)) :=
 (cS hN hv hd hcd).imp fun _ _ _=>Di
theorem CO {pos:Pos} (hK:X.K=K) (hd:ds2[i]?=some d) (ho:PE X o (tP K p1 ds ds1 i m mp)) (hb:PE X b (tF K p2 ds1 ds2 d1 f)) (hz:dns m d≠0) (hpu:p2=true∨m=0) (hs:eR b):PE X (.Subscript o b pos) (tP K (p1 && p2) ds ds2 i (m+1) (pIx i mp f)):=by
 subst hK
 exact (nV ix_seq ho hb hs).imp fun _ _ _=>Et hpu hd hz
theorem Post.place {Ox:AS} {en en1:En} {R R1:Nat→AS} {H1:Hp} {F:AS} {t:D} {π:List Nat} {ts:List D} {v w:V} (P:Post K p ds1 Ox σ H en R en1 H1 R1 F) (hi:en1[i]?=some (some t)) (hv:σ[i]?=some (some v)) (hd:ds1[i]?=some d) (hg:cI t π=some (.list ts)) (hz:dns π.length d≠0) (pv:PathV H1 v π w) :
  ∃ l vs,∃ F1:AS,w=.ref l∧H1 l=some (.lst vs)∧R1 i l∧(∀ b,F1 b→R1 i b∧b≠l)∧Ows K (Own R1 (U F Ox)) H1 ts (dn (dns π.length d)) vs F1 ∧
   ∀ (ts':List D) (vs':List V) (G:AS),(∀ b,G b→F1 b∨F b)→(∀ O',(∀ a,O' a→Own R1 (U F Ox) a)→Ows K O' (upd H1 l (.lst vs')) ts' (dn (dns π.length d)) vs' G) →
    ∃ R',Post K false ds1 Ox σ H en R (en1.set i (some (cH t π (.list ts')))) (upd H1 l (.lst vs')) R' NoA:=by
 obtain ⟨v',d',b1,b2,b3⟩:=P.env.at_ i t hi
 rw [hv] at b1
 cases b1
 rw [hd] at b2
 cases b2
 obtain ⟨w2,F1,Fr,q1,q2,q3,q4,q5,q6⟩:=b3.zoom hg hz
 have ew:=pv.det q1
 subst ew
 obtain ⟨l,vs,el,hl,hr,F',hf',ow⟩:=q5.ownL hz
 refine ⟨l,vs,F',el,hl,q2 l hr,fun b z=>⟨q2 b (hf' b z).1,(hf' b z).2⟩,ow,fun ts' vs' G hG hO=>?_⟩
 have hlen:i < en1.length:=(List.getElem?_eq_some_iff.mp hi).1
 have gl:∀ b,F b→b≠l:=fun b z ze=>by
  subst ze
  exact P.env.dx i b (q2 b hr) (.inl z)
 have gG:∀ a,(fun b=>Fr b∨(b=l∨G b)) a→R1 i a∨F a:=fun a z=>by
  rcases z with z | z | z
  ·exact .inl (q3 a z)
  ·rw [z]; exact .inl (q2 l hr)
  ·rcases hG a z with z | z
   ·exact .inl (q2 a (hf' a z).1)
   ·exact .inr z
 have sub:=i5 (i:=i) (R1:=R1) (Ox:=Ox) (G:=fun b=>Fr b∨(b=l∨G b)) (F':=NoA) (F:=F) gG (fun _ z=>z.elim)
 have Ol:Own R1 (U F Ox) l:=.inl ⟨i,q2 l hr⟩
 refine ⟨_,P.slot (G:=fun b=>Fr b∨(b=l∨G b)) (q2 l hr) hlen hv hd gG (fun _ z=>z.elim) (fun _ _ z=>z) ?_⟩
 refine q6 _ _ (.list ts') (fun b=>b=l∨G b) ⟨fun a o q z=>?_,fun a z=>.inl (sub a z)⟩ (fun b z z2=>?_) ?_
 ·rw [aM]
  ·exact q
  ·intro za
   subst za
   rcases z with z | z
   ·exact z Ol
   ·exact q4 a hr z
 ·rcases z with z | z
  ·rw [z] at z2; exact q4 l hr z2
  ·rcases hG b z with z | z
   ·exact q4 b (hf' b z).1 z2
   ·exact P.env.dx i b (q3 b z2) (.inl z)
 ·refine ⟨l,vs',el,.inr ⟨hz,aL,.inl rfl,G,fun b z=>⟨.inr z,?_⟩,hO _ sub⟩⟩
  rcases hG b z with z | z
  ·exact (hf' b z).2
  ·exact gl b z
def Fq (i:Nat) (mp:MP) (f:ME):ME:=fun en=>(mp en).bind fun r=>match (r.2[i]?).join with
 | some t=>(cI t r.1).bind fun u=>match u with
  | .list ts=>(f r.2).bind fun q=>if ts.length < sizeLine then some (.none,q.2.set i (some (cH t r.1 (.list (ts++[q.1]))))) else none
  | _=>none
 | none=>none
def fB (i:Nat) (mp:MP) (fk fe:ME):MS:=fun en=>(fe en).bind fun r=>(mp r.2).bind fun w=>(fk w.2).bind fun q=>match q.1,(q.2[i]?).join with
 | .int n,some t=>(cI t w.1).bind fun u=>match u with
  | .list ts=>(ixN ts.length n).map fun k=>.nx (q.2.set i (some (cH t w.1 (.list (ts.set k r.1)))))
  | _=>none
 | _,_=>none
theorem yE {c:Nat} {D:Ends} (hpu:p2=true∨m=0) (hd:ds2[i]?=some d) (hz:dns m d≠0) (hc:dn (dns m d)=c) {ds0:List Nat} (h:tFS K J ds ds2 (fB i mp fk fe) D σ H) :
  jz (tF K p ds ds0 c fe) (oB (tP K p1 ds0 ds1 i m mp) (tF K p2 ds1 ds2 d2 fk) lC) D σ H:=by
 obtain ⟨Ox,en,R,fl,e,hf,k⟩:=h
 unfold fB at hf
 obtain ⟨⟨t1,en1⟩,h1,hf⟩:=Option.bind_eq_some_iff.mp hf
 obtain ⟨⟨π,en2⟩,h2,hf⟩:=Option.bind_eq_some_iff.mp hf
 obtain ⟨⟨t3,en3⟩,h3,hf⟩:=Option.bind_eq_some_iff.mp hf
 dsimp only at hf
 split at hf
 case h_2=>cases hf
 next n t h4 =>
 obtain ⟨u,h5,hf⟩:=Option.bind_eq_some_iff.mp hf
 cases u with
 | list ts =>
  obtain ⟨kk,h6,hf⟩:=Option.map_eq_some_iff.mp hf
  cases hf
  refine ⟨Ox,en,R,t1,en1,e,h1,fun x H1 R1 F1 P1 o1=>?_⟩
  refine ⟨U F1 Ox,en1,R1,π,en2,P1.env,h2,fun v w H2 R2 P2 hl hv pv=>?_⟩
  have P12:=P1.trans P2
  have o12:=Ow.over P1.env P2 o1
  have e0:U F1 NoA=F1:=dG fun a=>⟨fun z=>z.elim id fun z=>z.elim,.inl⟩
  rw [e0] at P12 o12
  refine ⟨U F1 Ox,en2,R2,.int n,en3,P12.env,h3,fun y H3 R3 F3 P3 o3=>?_⟩
  have P:=P12.trans P3
  have o1':=Ow.over P12.env P3 o12
  have ey:y=.int n:=o3
  subst ey
  subst hl
  have pv3:PathV H3 v π w:=by
   rcases hpu with hp | hm
   ·exact pv.mono (P3.pure hp).2.2
   ·have e0:π=[]:=List.length_eq_zero_iff.mp hm
    subst e0
    exact pv
  obtain ⟨l,vs,G1,el,hl1,hr,hf1,ow,fin⟩:=P.place (a9 h4) hv hd h5 hz pv3
  subst el
  refine ⟨l,vs,n,kk,rfl,rfl,hl1,by rw [ow.len]; exact h6,?_⟩
  have Fn:∀ a,F1 a→a≠l:=fun a z z2=>by
   subst z2
   exact P.env.dx i a hr (.inl (.inl z))
  have Ol:Own R3 (U (U F1 F3) Ox) l:=.inl ⟨i,hr⟩
  obtain ⟨R',PF⟩:=fin (ts.set kk t1) (vs.set kk x) (U G1 F1) (fun _ z=>z.imp id .inl) fun O' ho=>by
   refine Ows.setAt (Ows.past ho Ol (fun b z=>(hf1 b z).2) ow) ?_ fun b z1 z2=>P.env.dx i b (hf1 b z1).1 (.inl (.inl z2))
   rw [hc]
   exact Ow.past ho Ol Fn o1'
  exact k σ _ _ PF.s
 | _=>cases hf
theorem qV {c:Nat} {ds0:List Nat} {spos pos:Pos} {k:Expr} (hd:ds2[i]?=some d) (he:PE X e (tF K p ds ds0 c fe)) (ho:PE X o (tP K p1 ds0 ds1 i m mp)) (hk:PE X k (tF K p2 ds1 ds2 d2 fk)) (hz:dns m d≠0) (hc:dn (dns m d)=c) (hpu:p2=true∨m=0)
  (ha:∀ v,assign (.Subscript o k spos) X.env v=(do
   let ov ← holding [v] (eval o X.env)
   let iv ← holding [v,ov] (eval k X.env)
   standAt spos
   holding [v,ov,iv] (setItem ov iv v)
   release [v,ov,iv] []))
  (hs:swapsWithSole [.Subscript o k spos] e pos.line X.env=pure false) (hw:swappedStores [.Subscript o k spos] e X.env=pure none)
  (h2:(assignEach [.Subscript o k spos] X.env).map (·.2)=[assign (.Subscript o k spos) X.env]) :
  PS X (.Assign [.Subscript o k spos] e pos) (tFS K J ds ds2 (fB i mp fk fe)) :=
 (lW he (lY ho hk jA ha) hs hw h2).imp fun _ _ _=>yE hpu hd hz hc
end
end L2
namespace L2
open PySem PySem.Spec PyProof.Rows
end L2
namespace L2
open PySem PySem.Spec PyProof.Rows
def n9 (f:Nat→Str):Nat→List Str
 | 0=>[]
 | i+1=>if (n9 f i).any (· == f i)=true then n9 f i else n9 f i++[f i]
section
variable {P:Program} {w:World} {A:Around} {R:Result→Shared→Prop} {I:Addr} {fp wr:List Addr} {G:Array GenState→Array GenState→Prop} {n:Nat} {Pi:Nat→Value→Prop} {St:Nat→Shared→Prop}
end
section
variable {P:Program} {w:World} {A:Around} {E:Value→Shared→Prop} {s:Shared}
def DL (z:Str) (i:Nat):Str:=match z.cps[i]? with
 | some c=>mk1 c
 | none=>""
end
end L2
namespace L2
open PySem PySem.Spec PyProof.Rows
section
variable {X:Cx} {K:PySem.W.Frag} {p p1 p2:Bool} {ds ds1 ds2:List Nat} {d d1 d2:Nat} {e k:Expr} {f f1 f2:ME} {fa:MA} {sh:Sh} {σ:St} {H:Hp} {Q Q':VK} {pos pos2 px py:Pos}
theorem oX (h:∀ v H,Q v H→Q' v H):tF K p ds ds1 d f σ H Q→tF K p ds ds1 d f σ H Q'
 | ⟨Ox,en,R,t,en',e,hf,k⟩=>⟨Ox,en,R,t,en',e,hf,fun v H' R' F P o=>h _ _ (k v H' R' F P o)⟩
def E7:D→Option D
 | .str z=>grd (z.length < 4000) (.int (n9 (DL z) z.length).length)
 | _=>none
def jC:D→D→Option D
 | .list ts,.int (-1)=>some (.list ts.reverse)
 | _,_=>none
def Fh:D→D→Option D
 | .tuple ts,.int (-1)=>some (.tuple ts.reverse)
 | _,_=>none
def Fi:D→D→Option D
 | .str z,.int (-1)=>grd (z.length≤sizeLine) (.str ⟨z.cps.toList.reverse.toArray⟩)
 | _,_=>none
theorem zd (hK:X.K=K) (he:PE X e (tF K p ds ds1 d1 f1)) (hk:PE X k (tF K p ds1 ds2 d2 f2)):PE X (.Subscript e (.Slice none none (some k) pos2) pos) (tF K p ds ds2 1 (e2 jC f1 f2)):=by
 subst hK
 refine (xX he hk).imp fun σ H Q h=>?_
 refine oX (fun x H1 h1=>oX (fun y H2 h2=>?_) h1) (j8 (by rw [Bool.and_self]; exact h))
 obtain ⟨O,a,b,t,oa,ob,hd,hg,q⟩:=h2
 unfold jC at hg
 split at hg
 ·cases hg
  obtain ⟨a,vs,rfl,fz,w⟩:=oa.lst0
  exact ⟨a,vs,rfl,ob,fz.sq,fun l hl=>q _ _ _ (cx hl hd w.rev).1 (cx hl hd w.rev).2⟩
 ·cases hg
def E9 (fa:MA):MI:=fun en=>(fa en).bind fun r=>match r.1 with
 | [.inl (.str x),.inl (.str y)]=>some (eB (jd x) (jd y),r.2)
 | _=>none
def isB:D→D→Option D
 | .bool a,.bool b=>some (.bool (a == b))
 | _,_=>none
theorem CT:OpR X (compareOp .Is) (rF2 K isB 3):=by
 intro pins s σ H x y v u Q I rx ry ⟨O,a,b,t,oa,ob,hd,hg,k⟩
 unfold isB at hg
 split at hg
 ·next a b =>
  cases hg
  cases (show x=V.bl a from oa)
  cases (show y=V.bl b from ob)
  cases rx
  cases ry
  have q:=k (.bl (a == b)) H NoA .refl rfl
  exact wpAny_pure ⟨.bl (a == b),H,I,by cases a <;> cases b <;> rfl,q⟩
 ·cases hg
end
end L2
namespace L2
open PySem PySem.Spec PyProof.Rows
section
variable {X:Cx} {K:PySem.W.Frag} {pins:List (Addr × Obj)} {σ:St} {H:Hp} {s:Shared} {O:AS}
theorem Inv.noSeq (I:Inv X pins σ H s) {a:Addr} {o:Obj} {xs:Array Value} {n:Nat} (h:s.heap.get? a=some o) (d:o.data=.seq xs n):sysModules≠a:=by
 intro e
 obtain ⟨mm,hm⟩:=I.mod.mods
 obtain ⟨ob,es,ep,g1,g2,_⟩:=hm.keeps I.bk
 rw [e,h] at g1
 cases g1
 rw [d] at g2
 cases g2
mutual
theorem Ow.reads2 (I:Inv X pins σ H s):∀ (t:D) {v:V} {u:Value},Ow X.K O H t 0 v NoA→RelV v u→∃ as,Reads s.heap u t as∧sysModules ∉ as
 | .none,_,_,h,r=>by
  cases (show _=V.non from h)
  cases r
  exact ⟨_,.none,by simp⟩
 | .bool b,_,_,h,r=>by
  cases (show _=V.bl b from h)
  cases r
  exact ⟨_,.bool _,by simp⟩
 | .int i,_,_,h,r=>by
  cases (show _=V.int i from h)
  obtain ⟨t,rfl⟩:=r
  exact ⟨_,.int _ _,by simp⟩
 | .str x,_,_,h,r=>by
  cases (show _=V.str x from h)
  obtain ⟨t,rfl⟩:=r
  exact ⟨_,.str _ _,by simp⟩
 | .list ts,_,_,h,r=>by
  obtain ⟨p,vs,rfl,fz,w⟩:=h.lst0
  cases r
  obtain ⟨its,rv,pl,_⟩:=I.list fz.sq
  obtain ⟨as,ra,rb⟩:=Ows.reads2 I ts w rv
  obtain ⟨o,n,e,e2,_,e3⟩:=pl
  refine ⟨_,.list e e2 e3 (by simpa using ra),fun hm=>?_⟩
  rcases List.mem_cons.mp hm with z | z
  ·exact I.noSeq e e3 z
  ·exact rb z
 | .tuple ts,_,_,h,r=>by
  obtain ⟨p,vs,rfl,fz,w⟩:=h.tup0
  cases r
  obtain ⟨its,rv,⟨o,e1,e2,n,e3⟩,_⟩:=I.tuple fz.sq
  obtain ⟨as,ra,rb⟩:=Ows.reads2 I ts w rv
  exact ⟨_,.tuple e1 e2 e3 (by simpa using ra),rb⟩
 | .dict ks,_,_,h,r=>by
  obtain ⟨a,vs,rfl,⟨_,ha,_,g2⟩ | ⟨z,_⟩⟩:=h
  ·cases r
   obtain ⟨_,hsys,us,kv,dd⟩:=kd I.hok ha
   obtain ⟨o,es,n,g1,gc,g3,_,g5,_⟩:=dd
   obtain ⟨bs,r1,r2,r3⟩:=Owd.reads2 I ks g2 kv g5
   refine ⟨_,.dict g1 gc.1 g3 r1 r2,fun hm=>?_⟩
   have hm':sysModules=a∨sysModules∈bs:=by simpa using hm
   rcases hm' with e | e
   ·rw [← e] at hsys
    simp at hsys
   ·exact r3 e
  ·exact absurd rfl z
theorem Ows.reads2 (I:Inv X pins σ H s):∀ (ts:List D) {vs:List V} {us:List Value},Ows X.K O H ts 0 vs NoA→Vals vs us→∃ as,ReadsAll s.heap us ts as∧sysModules ∉ as
 | [],_,_,h,r=>by
  cases (show _=[] from h)
  cases r
  exact ⟨_,.nil,by simp⟩
 | t :: ts,_,_,h,r=>by
  obtain ⟨v,q,F1,F2,e,_,_,_,h4,h5⟩:=h
  subst e
  cases r with
  | cons ru rr =>
   obtain ⟨as,a1,b1⟩:=Ow.reads2 I t (Ow.any0 t h4) ru
   obtain ⟨bs,a2,b2⟩:=Ows.reads2 I ts (Ows.any0 ts h5) rr
   exact ⟨_,.cons a1 a2,fun z=>(List.mem_append.mp z).elim b1 b2⟩
theorem Owd.reads2 (I:Inv X pins σ H s):∀ (ks:List (D × D)) {vs:List (Key × V)} {us:List (Key × Value)} {es:List DictEntry},Owd X.K O H ks 0 vs NoA→KV vs us→Pairs (bn X.prog X.w) es us →
  ∃ bs,ReadsAll s.heap (es.map fun x=>x.key) (ks.map fun x=>x.1) []∧ReadsAll s.heap (es.map fun x=>x.val) (ks.map fun x=>x.2) bs∧sysModules ∉ bs
 | [],_,_,_,h,r,p=>by
  cases (show _=[] from h)
  cases r
  cases p
  exact ⟨_,.nil,.nil,by simp⟩
 | (k,t) :: ks,_,_,_,h,r,p=>by
  obtain ⟨q,v,r',F1,F2,e,rfl,_,_,_,h4,h5⟩:=h
  subst e
  cases r with
  | cons ru rr =>
   cases p with
   | @cons e0 _ _ _ p1 p2 p3 =>
    obtain ⟨as,a1,b1⟩:=Ow.reads2 I t (Ow.any0 t h4) ru.2
    obtain ⟨bs,a2,a3,b2⟩:=Owd.reads2 I ks (Owd.any0 ks h5) rr p3
    have hk:Reads s.heap e0.key (kD q) []:=by
     have p1':il _ e0.key=true:=p1
     rw [← ru.1] at p1'
     rcases bq p1' with ⟨i,t,e1,e2⟩ | ⟨x,t,e1,e2⟩
     ·have e1':q=Sum.inl i:=e1
      rw [e1',e2]
      exact .int _ _
     ·have e1':q=Sum.inr x:=e1
      rw [e1',e2]
      exact .str _ _
    exact ⟨as++bs,.cons hk a2,.cons (show Reads s.heap e0.val t as from p2 ▸ a1) a3,fun z=>(List.mem_append.mp z).elim b1 b2⟩
end
def jU:List D→Option D
 | [t]=>grd (t.showable=true∧t.depth≤60∧t.shown.length≤sizeLine) (.str t.shown)
 | _=>none
theorem mI (hK:X.K=K) (hg:X.A.guards=some []) (hu:X.A.units+64 < cLine):CallR X (.builtin "repr") (rFn K jU 3):=by
 intro pins s σ H xs us Q I r ⟨O,as,t,oa,hd,hr,k⟩
 by_cases hold:nT as=some t
 ·exact yT hK hg hu pins s σ H xs us Q I r ⟨O,as,t,oa,hd,hold,k⟩
 subst hK
 unfold jU at hr
 split at hr
 ·next d =>
  obtain ⟨⟨c2,c3,c4⟩,rfl⟩:=dJ hr
  obtain ⟨v,rfl,o⟩:=oa.one
  obtain ⟨u,rfl,ru⟩:=cz r
  obtain ⟨as,rd,hs⟩:=Ow.reads2 I d o ru
  have q:=k (.str d.shown) H NoA .refl rfl
  obtain ⟨a,rfl⟩:∃ a,u=.ref a:=by
   cases d with
   | tuple ts =>
    obtain ⟨p,vs,rfl,_,_⟩:=o.tup0
    exact ⟨p,ru⟩
   | list ts =>
    obtain ⟨p,vs,rfl,_,_⟩:=o.lst0
    exact ⟨p,ru⟩
   | dict ks =>
    obtain ⟨a,vs,rfl,_⟩:=o
    exact ⟨a,ru⟩
   | _ =>
    refine absurd ?_ hold
    show grd _ _=_
    exact if_pos ⟨rfl,c2,c3,c4⟩
  exact repr_of_reads' rd c2 (fun _=>hs) hg (by omega) (fun _ _ e=>e) (fun h' u tk hk=>⟨.str _,H,I.kept (t':=tk) hk,⟨_,rfl⟩,q⟩) c4
 ·cases hr
def Ca:V→Option Int
 | .int i=>some i
 | .bl b=>some (if b=true then 1 else 0)
 | _=>none
def DM (K:PySem.W.Frag):List V→Hp→VK→Prop:=fun xs H Q=>∃ (p:Addr) (vs:List V) (ns:List Int),xs=[.ref p]∧SqL K H p vs∧Paired (fun v n=>Ca v=some n) vs ns∧Q (.int ns.sum) H
theorem Paired.at {α β:Type} {F:α→β→Prop}:∀ {xs:List α} {ys:List β} {i:Nat} {x:α},Paired F xs ys→xs[i]?=some x→∃ y,ys[i]?=some y∧F x y
 | _,_,_,_,.nil,e=>by simp at e
 | _,_,0,_,.cons r _,e=>by simp at e; subst e; exact ⟨_,rfl,r⟩
 | _,_,i+1,x,.cons _ t,e=>by
  obtain ⟨u,h1,h2⟩:=Paired.at (i:=i) (x:=x) t (by simpa using e)
  exact ⟨u,by simpa using h1,h2⟩
theorem p5 (hc:X.calm=true):CallR X (.builtin "sum") (DM X.K):=by
 intro pins s σ H xs us Q I r h
 obtain ⟨p,vs,ns,rfl,hp,hn,q⟩:=h
 obtain ⟨u,rfl,ru⟩:=cz r
 cases ru
 obtain ⟨its,rv,pl,hz⟩:=I.list hp
 have hl:its.length=ns.length:=by rw [← rv.length,Paired.length hn]
 have hlt:p < s.heap.objs.size:=by
  obtain ⟨o,n,e,_⟩:=id pl
  exact Heap.lt_size e
 have hsz:its.toArray.size=ns.length:=by rw [List.size_toArray,hl]
 refine call_sum_walkAnyB (wpAny_pyIter_list pl.isList ?_)
 refine ⟨s.heap.objs.size,[s.heap.objs.size,p],[s.heap.objs.size],_,its.toArray.size,fun i v=>its.toArray[i]?=some v,_,fun i=>ns.getD i 0,rfl,(Walks.list (A:=X.A.in1) (show X.A.in1.handled=none from I.ok.hd hc) s.heap.objs.size p (Nat.ne_of_lt hlt) its.toArray).toS,?_,?_,?_,?_⟩
 ·exact ⟨⟨_,Heap.get?_push_size _ rfl,rfl,rfl⟩,pl.isList.push _⟩
 ·intro b hb
  show b < (s.heap.push _).objs.size
  rw [Heap.size_push]
  have hb':b=s.heap.objs.size∨b=p:=by simpa using hb
  rcases hb' with rfl | rfl
  ·exact Nat.lt_succ_self _
  ·exact Nat.lt_succ_of_lt hlt
 ·intro i v hv
  have hv':its[i]?=some v:=by simpa using hv
  have hi:i < vs.length:=by
   rw [rv.length]
   exact (List.getElem?_eq_some_iff.mp hv').1
  obtain ⟨u,hu,ru⟩:=rv.get (i:=i) (List.getElem?_eq_getElem hi)
  obtain ⟨n,hn1,hn2⟩:=Paired.at hn (List.getElem?_eq_getElem hi)
  rw [hu] at hv'
  cases hv'
  show NumOf (ns.getD i 0) _
  rw [List.getD_eq_getElem?_getD,hn1]
  generalize vs[i]=x at ru hn2
  cases x with
  | int j=>obtain ⟨t,rfl⟩:=ru; cases hn2; exact .inl ⟨t,rfl⟩
  | bl b=>cases ru; cases hn2; exact .inr ⟨b,rfl,rfl⟩
  | _=>cases hn2
 ·intro s' t' hm
  have e:preSum (fun i=>ns.getD i 0) its.toArray.size=ns.sum:=by
   rw [hsz,gn ns ns.length (Nat.le_refl _),List.take_length]
  rw [e]
  obtain ⟨hh,g,dr,tk,os'⟩:=s'
  have e1:dr=s.drawn:=hm.drawn
  have e2:os'=s.os:=hm.os
  have e3:g=s.gens:=hm.gens
  subst e1 e2 e3
  refine ⟨.int ns.sum,H,I.kept (t':=tk) fun b o z=>hm.heap b o ?_ (Heap.get?_push_of_some _ z),⟨_,rfl⟩,q⟩
  intro z'
  have z'':b=s.heap.objs.size:=by simpa using z'
  exact Nat.ne_of_lt (Heap.lt_size z) z''
def dW:List D→Option (List Int)
 | []=>some []
 | .int i :: r=>(dW r).map (i :: ·)
 | .bool b :: r=>(dW r).map ((if b=true then 1 else 0) :: ·)
 | _ :: _=>none
theorem jI:∀ {ts:List D} {vs:List V} {bs:List Int},Ows K O H ts 0 vs NoA→dW ts=some bs→Paired (fun v n=>Ca v=some n) vs bs
 | [],_,_,h,hb=>by cases hb; cases (show _=[] from h); exact .nil
 | .int b :: r,_,_,h,hb=>by
  obtain ⟨v,w,F1,F2,e,_,_,_,h4,h5⟩:=h
  obtain ⟨bs',h6,h7⟩:=Option.map_eq_some_iff.mp hb
  subst e h7
  exact .cons (by rw [show v=.int b from h4]; rfl) (jI (Ows.any0 r h5) h6)
 | .bool b :: r,_,_,h,hb=>by
  obtain ⟨v,w,F1,F2,e,_,_,_,h4,h5⟩:=h
  obtain ⟨bs',h6,h7⟩:=Option.map_eq_some_iff.mp hb
  subst e h7
  exact .cons (by rw [show v=.bl b from h4]; rfl) (jI (Ows.any0 r h5) h6)
 | .none :: _,_,_,_,hb=>by cases hb
 | .str _ :: _,_,_,_,hb=>by cases hb
 | .list _ :: _,_,_,_,hb=>by cases hb
 | .tuple _ :: _,_,_,_,hb=>by cases hb
 | .dict _ :: _,_,_,_,hb=>by cases hb
def qu:List D→Option D
 | [.list ts]=>(dW ts).map fun ns=>.int ns.sum
 | _=>none
theorem yQ (hK:X.K=K) (hc:X.calm=true):CallR X (.builtin "sum") (rFn K qu 3):=by
 subst hK
 refine (p5 hc).imp fun xs H Q ⟨O,as,t,oa,hd,hg,k⟩=>?_
 match as,hg with
 | [.list ts],hg =>
  obtain ⟨ns,h1,rfl⟩:=Option.map_eq_some_iff.mp hg
  obtain ⟨v,rfl,o⟩:=oa.one
  obtain ⟨a,vs,rfl,fz,w⟩:=o.lst0
  exact ⟨a,vs,ns,rfl,fz.sq,jI w h1,k _ H NoA .refl rfl⟩
end
end L2
namespace L2
open PySem PySem.Spec PyProof.Rows
section
variable {X:Cx} {K:PySem.W.Frag} {p p1 p2:Bool} {ds ds1 ds2:List Nat} {d d1 d2:Nat} {a b:Expr} {f f1 f2:ME} {σ:St} {H:Hp} {Q Q':VK} {pos:Pos} {ta tb:TE} {rest:List Expr}
def FD:D→Option Int→Option Int→Option D
 | .tuple ts,lo,hi=>grd (¬ (HT.sIx ts.length 0 lo=0∧HT.sIx ts.length ts.length hi=ts.length)) (.tuple (bX ts lo hi))
 | _,_,_=>none
def EE:D→Option Bool
 | .none=>some false
 | .bool b=>some b
 | .list ts=>some (!ts.isEmpty)
 | .tuple ts=>some (!ts.isEmpty)
 | _=>none
def FB (f g:ME):ME:=fun en=>(f en).bind fun r=>(EE r.1).bind fun c=>if c then some r else g r.2
end
end L2
namespace L2
open PySem PySem.Spec PyProof.Rows
section
variable {X:Cx} {K:PySem.W.Frag} {p p1 p2:Bool} {ds ds1 ds2:List Nat} {d d1 d2:Nat} {a b:Expr} {f f1 f2:ME} {σ:St} {H:Hp} {Q Q':VK} {pos:Pos}
end
end L2
namespace L2
open PySem PySem.Spec PyProof.Rows PySem.SeqAt PySem.MeetsSeq
section
variable {A:Around} {s:Shared}
end
section
variable {X:Cx} {pins:List (Addr × Obj)} {σ:St} {H:Hp} {s:Shared} {O:AS}
end
section
variable {X:Cx} {K:PySem.W.Frag}
end
end L2
namespace L2
open PySem PySem.Spec PyProof.Rows PySem.SeqAt PySem.MeetsSeq
def Fw:D→D→Option D
 | .tuple ts,.int k=>grd (1≤k∧k≤1000∧ts.length≤1000) (.tuple (List.replicate k.toNat ts).flatten)
 | _,_=>none
section
variable {X:Cx} {K:PySem.W.Frag}
def Fj:D→D→Option D
 | .int k,.str z=>grd (z.length≤4000∧1≤k∧k≤4000) (.str (Txt.mul z k))
 | _,_=>none
end
section
variable {X:Cx} {K:PySem.W.Frag}
end
section
variable {X:Cx} {K:PySem.W.Frag}
end
section
variable {X:Cx} {K:PySem.W.Frag} {p p1 p2:Bool} {ds ds1 ds2:List Nat} {d d1 d2:Nat} {e:Expr} {f f1 f2:ME} {σ:St} {H:Hp} {Q Q':VK}
end
def Fe:D→D→Option D
 | .tuple ts,b=>grd (aw b=true∧aE ts=true∧bj ts≤60) (.int (ts.countP fun t=>peq t b:Nat))
 | _,_=>none
section
variable {X:Cx} {K:PySem.W.Frag} {p:Bool} {ds ds1 ds2:List Nat} {d d1 d2:Nat} {e:Expr} {f f1 f2:ME} {σ:St} {H:Hp} {Q Q':VK}
end
end L2
namespace L2
open PySem PySem.Spec PyProof.Rows HT
section
variable {prog:Program} {w:World} {A:Around} {E:Value→Shared→Prop} {s:Shared}
end
def Fs:D→Option Int→Option Int→Option D
 | .tuple ts,lo,hi=>some (.tuple (bX ts lo hi))
 | _,_,_=>none
section
variable {X:Cx} {K:PySem.W.Frag}
end
end L2
namespace L2
open PySem PySem.Spec PyProof.Rows
section
variable {P:Program} {w:World} {A:Around} {E:Value→Shared→Prop} {s:Shared}
end
section
variable {X:Cx} {K:PySem.W.Frag} {p p1 p2:Bool} {ds ds1 ds2:List Nat} {d d1 d2:Nat} {e k:Expr} {f f1 f2:ME} {fa:MA} {sh:Sh} {σ:St} {H:Hp} {Q Q':VK} {pos pos2 px py:Pos}
end
end L2
namespace L2
open PySem PySem.Spec PyProof.Rows PySem.SeqAt PySem.MeetsSeq
section
variable {X:Cx} {K:PySem.W.Frag}
def nS:List D→Option D
 | [.int i]=>grd (i.natAbs.log2 < 1920) (.str (toString i))
 | _=>none
theorem yR:CallR X (.type "str") (rFn K nS 3):=call_str_int.imp fun xs H Q ⟨O,as,t,oa,hd,hg,k⟩=>by
 match as,hg with
 | [.int i],hg =>
  obtain ⟨c,rfl⟩:=dJ hg
  obtain ⟨v,rfl,o⟩:=oa.one
  exact ⟨i,by rw [show v=.int i from o],c,k _ H NoA .refl rfl⟩
end
section
variable {X:Cx} {K:PySem.W.Frag}
end
end L2
namespace L2
open PySem PySem.Spec PyProof.Rows PySem.SeqAt PySem.MeetsSeq
section
variable {X:Cx} {K:PySem.W.Frag} {p p1 p2:Bool} {ds ds1 ds2:List Nat} {d d1 d2:Nat} {e:Expr} {f f1 f2:ME} {σ:St} {H:Hp} {Q Q':VK} {i:Nat}
end
section
variable {X:Cx} {K:PySem.W.Frag} {p p1 p2 q:Bool} {J:Jd} {ds ds0 ds1 ds2 ds' dsi dps:List Nat} {d d' d1 d2 dr:Nat} {a b c e tg iter:Expr} {es:List Expr} {st:Stmt} {rest body bodyB:List Stmt} {f f1 f2 fk fe:ME} {c1 c2:MT} {fa:MA} {sh:Sh} {pos px:Pos} {i:Nat} {x:Str} {m m1 m2:MS} {g:MG} {gs:List D→En→Option En} {fi:MI} {lk:List Nat}
end
end L2
namespace L2
open PySem PySem.Spec PyProof.Rows
section
variable {prog:Program} {w:World} {A:Around} {E:Value→Shared→Prop} {s:Shared}
end
section
variable {prog:Program} {w:World} {A:Around} {E:Value→Shared→Prop} {s:Shared}
end
section
variable {X:Cx} {tg:Expr} {K:PySem.W.Frag}
end
section
variable {X:Cx} {K:PySem.W.Frag} {p:Bool} {ds ds1:List Nat} {d:Nat} {fa:MA} {sh:Sh} {O O1:AS} {H0 H:Hp} {ts us:List D} {vs ws:List V} {a b:Addr}
def E8 (fa:MA):MI:=fun en=>(fa en).bind fun r=>match r.1 with
 | [.inl (.tuple ts),.inl (.tuple us)]=>some (eB ts us,r.2)
 | _=>none
end
end L2
namespace L2
open PySem PySem.Spec PyProof.Rows
def tFH (K:PySem.W.Frag) (lk:List Nat) (ds ds':List Nat) (g:MG):TG:=fun v σ H Q =>
 ∃ Ox en R t en',EnvOk K ds Ox H σ en R∧Ow K (Own R Ox) H t 0 v NoA∧g t en=some en'∧∀ σ' H' R',PostS K lk ds' Ox σ H R σ' en' H' R' NoA→Q σ' H'
def fj (K:PySem.W.Frag) (lk:List Nat) (ds ds':List Nat) (g:List PyData→En→Option En):TGs:=fun vs σ H Q =>
 ∃ Ox en R ts en',EnvOk K ds Ox H σ en R∧Ows K (Own R Ox) H ts 0 vs NoA∧g ts en=some en'∧∀ σ' H' R',PostS K lk ds' Ox σ H R σ' en' H' R' NoA→Q σ' H'
def gS (i j:Nat):MG:=fun t en=>match (en[j]?).join,(en[i]?).join with
 | some (.int n),some (.list ts)=>(ixN ts.length n).map fun k=>en.set i (some (.list (ts.set k t)))
 | _,_=>none
section
variable {K:PySem.W.Frag} {p p1 p2 q:Bool} {J:Jd} {lk ds ds0 ds1 ds2 ds':List Nat} {d d' d1 d2:Nat} {f:ME} {i j:Nat} {g:MG} {gs:List D→En→Option En} {σ:St} {H:Hp} {Dn:Ends} {v:V} {vs:List V} {QS:St→Hp→Prop}
theorem CY (hd:ds[i]?=some 1) (h:tFH K lk ds ds (gS i j) v σ H QS):oB (eE i) (eE j) lC v σ H QS:=by
 obtain ⟨Ox,en,R,t,en',e,o,hf,k⟩:=h
 unfold gS at hf
 split at hf
 case h_2=>cases hf
 next n ts hj hi0 =>
 obtain ⟨kk,h4,hf⟩:=Option.map_eq_some_iff.mp hf
 cases hf
 obtain ⟨vj,dj,c1,c2,c3⟩:=e.at_ j _ (a9 hj)
 obtain ⟨v',d',b1,b2,b3⟩:=e.at_ i _ (a9 hi0)
 rw [hd] at b2
 cases b2
 obtain ⟨l,vs,el,hl,hr,F',hf',ow⟩:=b3.ownL (by decide)
 refine ⟨v',b1,vj,c1,l,vs,n,kk,el,c3,hl,by rw [ow.len]; exact h4,?_⟩
 have hi:i < en.length:=(List.getElem?_eq_some_iff.mp (a9 hi0)).1
 have P:=Post.refl (p:=true) e
 have gG:∀ a,R i a→R i a∨(NoA:AS) a:=fun a z=>.inl z
 have Ol:Own R (U NoA Ox) l:=.inl ⟨i,hr⟩
 have sub:=i5 (i:=i) (R1:=R) (Ox:=Ox) (G:=R i) (F':=NoA) (F:=NoA) gG (fun _ z=>z.elim)
 have PS:=P.slot (G:=R i) (F':=NoA) (o2:=.lst (vs.set kk v)) (t:=.list (ts.set kk t)) hr hi b1 hd gG (fun _ z=>z.elim) (fun _ _ z=>z) ?_
 ·exact k σ _ _ PS.s
 refine ⟨l,vs.set kk v,el,.inr ⟨by decide,aL,hr,F',fun b z=>hf' b z,?_⟩⟩
 have e1:U F' NoA=F':=by funext a; exact propext ⟨fun z=>z.elim id fun z=>z.elim,.inl⟩
 rw [← e1]
 refine Ows.setAt (Ows.past sub Ol (fun b z=>(hf' b z).2) ?_) ?_ fun b z1 z2=>z2.elim
 ·rw [fw]; exact ow
 ·exact Ow.past sub Ol (fun _ z=>z.elim) (by rw [fw]; exact o)
theorem yY (h:fj K lk ds ds gs0 vs σ H QS):qS vs σ H QS:=by
 obtain ⟨Ox,en,R,ts,en',e,o,hf,k⟩:=h
 cases ts with
 | nil=>cases hf; exact ⟨o,k σ H R (PostS.refl e)⟩
 | cons t ts=>cases hf
theorem re (h:fj K lk ds ds2 (gsC g gs) vs σ H QS):oC (tFH K lk ds ds1 g) (fj K lk ds1 ds2 gs) vs σ H QS:=by
 obtain ⟨Ox,en,R,ts,en',e,o,hf,k⟩:=h
 cases ts with
 | nil=>cases hf
 | cons t ts =>
  obtain ⟨en1,h1,h2⟩:=Option.bind_eq_some_iff.mp hf
  obtain ⟨v,r,F1,F2,e1,s1,s2,s3,o1,o2⟩:=o
  refine ⟨v,r,e1,Ox,en,R,t,en1,e,Ow.any0 t o1,h1,fun σ1 H1 R1 P1=>?_⟩
  refine ⟨Ox,en1,R1,ts,en',P1.env0,Ows.any0 ts (Ows.mv (G:=NoA) ⟨fun a o q z=>P1.keep a o q fun i z2=>z.elim (fun z=>z (.inl ⟨i,z2⟩)) (fun z=>z.elim),fun a z=>?_⟩ ts (F:=NoA) (fun _ z=>z) (Ows.any0 ts o2)),h2,fun σ2 H2 R2 P2=>k σ2 H2 R2 (P1.after P2)⟩
  rcases z with z | z
  ·exact (P1.own a (.inr z)).imp .inl id
  ·exact .inl (.inr z)
theorem CW {n:Nat} (hn:∀ ts en,(∃ en',gs ts en=some en')→ts.length=n) (h:tFH K lk ds ds1 (gT gs) v σ H QS):qR K n (fj K lk ds ds1 gs) v σ H QS:=by
 obtain ⟨Ox,en,R,t,en',e,o,hf,k⟩:=h
 cases t with
 | tuple ts =>
  have hf':gs ts en=some en':=hf
  obtain ⟨a,vs,e1,⟨_,h1,h2⟩ | ⟨z,_⟩⟩:=o
  ·exact ⟨a,vs,e1,h1.sq,by rw [← hn ts en ⟨en',hf'⟩]; exact h2.len,Ox,en,R,ts,en',e,h2,hf',k⟩
  ·exact absurd rfl z
 | _=>cases hf
theorem yH (h:tFS K J ds ds2 (jB f g) Dn σ H):jz (tF K p ds ds1 0 f) (tFH K J.lk ds1 ds2 g) Dn σ H:=by
 obtain ⟨Ox,en,R,fl,e,hf,k⟩:=h
 unfold jB at hf
 obtain ⟨⟨t,en1⟩,h1,hf⟩:=Option.bind_eq_some_iff.mp hf
 obtain ⟨en2,h2,hf⟩:=Option.map_eq_some_iff.mp hf
 cases hf
 refine ⟨Ox,en,R,t,en1,e,h1,fun v H1 R1 F P o=>?_⟩
 exact ⟨Ox,en1,R1,t,en2,P.env0,Ow.letgo P (fun _ z=>z) o,h2,fun σ2 H2 R2 P2=>k σ2 H2 R2 ((P.s.less fun _ z=>z.elim).after P2)⟩
end
section
variable {X:Cx} {K:PySem.W.Frag} {J:Jd} {lk ds ds0 ds1 ds2 ds':List Nat} {e tg:Expr} {es:List Expr} {f:ME} {pos px:Pos} {i:Nat} {g:MG} {gs:List D→En→Option En}
theorem y8 {j:Nat} {x y:Str} {py spos:Pos} (hN:X.N[i]?=some x) (hv:Vis X.env.scope x) (hNj:X.N[j]?=some y) (hvj:Vis X.env.scope y) (hd:ds[i]?=some 1)
  (hdb:(x == ("__debug__" : Str))=false) (hcd:(x == ("__classdict__" : Str))=false) (hdb2:(y == ("__debug__" : Str))=false) (hcd2:(y == ("__classdict__" : Str))=false)
  (ha:∀ v,assign (.Subscript (.Name x px) (.Name y py) spos) X.env v=(do
   let ov ← holding [v] (eval (.Name x px) X.env)
   let iv ← holding [v,ov] (eval (.Name y py) X.env)
   standAt spos
   holding [v,ov,iv] (setItem ov iv v)
   release [v,ov,iv] [])):PG X (.Subscript (.Name x px) (.Name y py) spos) (tFH K lk ds ds (gS i j)) :=
 (lY (cS hN hv hdb hcd) (cS hNj hvj hdb2 hcd2) jA ha).imp fun _ _ _ _=>CY hd
theorem q0:PGs X [] (fj K lk ds ds gs0):=pgs_nil.imp fun _ _ _ _=>yY
theorem pQ (h1:PG X e (tFH K lk ds ds1 g)) (h2:PGs X es (fj K lk ds1 ds2 gs)) (hs:(assignEach (e :: es) X.env).map (·.2)=assign e X.env :: (assignEach es X.env).map (·.2)):PGs X (e :: es) (fj K lk ds ds2 (gsC g gs)):=(lX h1 h2 hs).imp fun _ _ _ _=>re
theorem yZ {k n:Nat} (hK:X.K=K) (hc:X.calm=true) (h:PGs X es (fj K lk ds ds1 gs)) (hl:∀ ts en,(∃ en',gs ts en=some en')→ts.length=n) (hn:(assignEach es X.env).length=n) (hst:(assignEach es X.env).findIdx? (·.1)=none) :
  PG X (.Tuple es k pos) (tFH K lk ds ds1 (gT gs)):=by
 subst hK
 exact (pb hc h hn hst).imp fun _ _ _ _=>CW hl
theorem qY (hc:X.calm=true) (he:PE X e (tF K false ds ds1 0 f)) (hg:PG X tg (tFH K J.lk ds1 ds2 g)) (hs:swapsWithSole [tg] e pos.line X.env=pure false) (hw:swappedStores [tg] e X.env=pure none)
  (h1:(assignEach [tg] X.env).map (·.2)=[assign tg X.env]):PS X (.Assign [tg] e pos) (tFS K J ds ds2 (jB f g)):=(lW he hg hs hw h1).imp fun _ _ _=>yH
end
end L2
namespace L2
open PySem PySem.Spec PyProof.Rows
structure QE (X:Cx) (e:Expr) (t:TE):Prop where
 h:PE X e t
structure QT (X:Cx) (e:Expr) (t:TT):Prop where
 h:PT X e t
structure QW (X:Cx) (e:Expr) (t:TT):Prop where
 h:PW X e t
structure QA (X:Cx) (e:List Expr) (t:TA):Prop where
 h:PA X e t
structure QS (X:Cx) (e:Stmt) (t:TS):Prop where
 h:PS X e t
structure QSs (X:Cx) (e:List Stmt) (t:TS):Prop where
 h:PSs X e t
structure QG (X:Cx) (e:Expr) (t:TG):Prop where
 h:PG X e t
structure QGs (X:Cx) (e:List Expr) (t:TGs):Prop where
 h:PGs X e t
structure QI (X:Cx) (tg e:Expr) (t:TI):Prop where
 h:PI X tg e t
structure QTs (X:Cx) (e:List Expr) (t:TT):Prop where
 h:PTs X e t
structure QO (X:Cx) (e:Option Expr) (t:TO):Prop where
 h:PO X e t
structure QPs (X:Cx) (pos:Pos) (ks:List (Option Expr)) (vs:List Expr) (t:List (TE × TE)):Prop where
 h:PPs X pos ks vs t
theorem qpt {X:Cx} {e:Expr} {t:TT} (h:QW X e t):QT X e t:=⟨h.h.pt⟩
section
variable {X:Cx} {K:PySem.W.Frag} {p p1 p2 q:Bool} {ds ds0 ds1 ds2 ds' dsi:List Nat} {d d' d1 d2:Nat} {a b c e:Expr} {es:List Expr} {f f1 f2:ME} {m c1 c2:MT} {fa:MA} {sh:Sh} {pos:Pos} {i:Nat} {x:Str}
theorem ad {x:Str} (hN:X.N[i]?=some x) (hv:Vis X.env.scope x) (h0:ds[i]?=some 0) (hd:(x == ("__debug__" : Str))=false) (hcd:(x == ("__classdict__" : Str))=false):QE X (.Name x pos) (tF K p ds ds 0 (ac i)):=⟨C0 hN hv h0 hd hcd⟩
theorem aj {n:Int} {j}:QE X (.Constant (.int n) j pos) (tF K p ds ds 3 (eC (.int n))):=⟨Da⟩
theorem bM {n:Bool} {j}:QE X (.Constant (.bool n) j pos) (tF K p ds ds 3 (eC (.bool n))):=⟨Eo⟩
theorem cs {j}:QE X (.Constant .none j pos) (tF K p ds ds 3 (eC .none)):=⟨C6⟩
theorem bO {n:Str} {j}:QE X (.Constant (.str n) j pos) (tF K p ds ds 3 (eC (.str n))):=⟨C3⟩
theorem al (h:QE X e (tF K p ds ds' d f)) (hd:d'≤d):QE X e (tF K p ds ds' d' f):=⟨C2 h.h hd⟩
theorem cK (h:QE X e (tF K p ds0 ds' d f)) (hd:leD ds0 ds=true):QE X e (tF K false ds ds' d f):=⟨El h.h hd⟩
theorem rp (h:QE X e (tF K true ds0 ds0 3 f)) (hd:leD ds0 ds=true):QE X e (tF K p ds ds 3 f):=⟨Dd h.h hd⟩
theorem am {op:Operator} {g:D→D→Option D} (ho:OpR X (binaryOp op) (rF2 K g d)) (ha:QE X a (tF K p ds ds1 d1 f1)) (hb:QE X b (tF K p ds1 ds2 d2 f2)):QE X (.BinOp a op b pos) (tF K p ds ds2 d (e2 g f1 f2)):=⟨Eh ho ha.h hb.h⟩
theorem gP {op:UnaryOp} {g:D→Option D} (ho:UnR X (unaryOp op) (rF1 K g d)) (ha:QE X a (tF K p ds ds1 d1 f1)):QE X (.UnaryOp op a pos) (tF K p ds ds1 d (e1 g f1)):=⟨Ef ho ha.h⟩
theorem eJ {op:CmpOp} {g:D→D→Option D} (ho:OpR X (compareOp op) (rF2 K g d)) (ha:QE X a (tF K p ds ds1 d1 f1)) (hb:QE X b (tF K p ds1 ds2 d2 f2)) (hm:behindInMarks op b=false):QE X (.Compare a [op] [b] pos) (tF K p ds ds2 d (e2 g f1 f2)):=⟨Dc ho ha.h hb.h hm⟩
theorem aP {op:CmpOp} {g:D→D→Option D} (ho:OpR X (compareOp op) (rF2 K g d)) (ha:QE X a (tF K p ds ds1 d1 f1)) (hb:QE X b (tF K p ds1 ds2 d2 f2)) (hm:behindInMarks op b=false):QT X (.Compare a [op] [b] pos) (tFT K p ds ds2 (tV (e2 g f1 f2))):=⟨yA ho ha.h hb.h hm⟩
theorem cg (h:QE X e (tF K p ds ds' d f)) (he:∀ whole,isTrue e X.env whole=(do let v ← whole; standAt e.pos; holding [v] (truthy v))):QT X e (tFT K p ds ds' (tV f)):=⟨yy h.h he⟩
theorem kS (ha:QT X a (tFT K p ds ds1 c1)):QW X (.BoolOp .And [a] pos) (tFT K p ds ds1 c1):=⟨yv ha.h⟩
theorem cU (ha:QT X a (tFT K p ds ds1 c1)):QW X (.BoolOp .Or [a] pos) (tFT K p ds ds1 c1):=⟨CB ha.h⟩
theorem mE {rest:List Expr} (ha:QT X a (tFT K p ds ds1 c1)) (hb:QW X (.BoolOp .And (b :: rest) pos) (tFT K p ds1 ds1 c2)):QW X (.BoolOp .And (a :: b :: rest) pos) (tFT K p ds ds1 (cZ c1 c2)):=⟨CC ha.h hb.h⟩
theorem di {rest:List Expr} (ha:QT X a (tFT K p ds ds1 c1)) (hb:QW X (.BoolOp .Or (b :: rest) pos) (tFT K p ds1 ds1 c2)):QW X (.BoolOp .Or (a :: b :: rest) pos) (tFT K p ds ds1 (bOr c1 c2)):=⟨Ea ha.h hb.h⟩
theorem dO (ha:QT X a (tFT K p ds ds1 c1)):QT X (.UnaryOp .Not a pos) (tFT K p ds ds1 (fV c1)):=⟨yz ha.h⟩
theorem kT (h:QT X e (tFT K true ds0 ds0 c1)) (hd:leD ds0 ds=true):QT X e (tFT K p ds ds c1):=⟨yB h.h hd⟩
theorem jJ {op} (h:QE X a (tF K p ds ds1 d f)):QE X (.BoolOp op [a] pos) (tF K p ds ds1 d f):=⟨C4 h.h⟩
theorem jK {rest:List Expr} (ha:QE X a (tF K p ds ds1 d1 f1)) (hb:QE X (.BoolOp .And (b :: rest) pos) (tF K p ds1 ds1 d f2)):QE X (.BoolOp .And (a :: b :: rest) pos) (tF K p ds ds1 d (iV f1 f2)):=⟨Dg ha.h hb.h⟩
theorem zg {rest:List Expr} (ha:QE X a (tF K p ds ds1 d1 f1)) (hb:QE X (.BoolOp .Or (b :: rest) pos) (tF K p ds1 ds1 d f2)):QE X (.BoolOp .Or (a :: b :: rest) pos) (tF K p ds ds1 d (eOr f1 f2)):=⟨Eg ha.h hb.h⟩
theorem rl (ha:QE X a (tF K p ds ds1 d1 f)):QE X (.UnaryOp .Not a pos) (tF K p ds ds1 3 (kB f)):=⟨C5 ha.h⟩
theorem zh (hc:QT X c (tFT K p ds ds1 c1)) (ha:QE X a (tF K p ds1 ds2 d f1)) (hb:QE X b (tF K p ds1 ds2 d f2)):QE X (.IfExp c a b pos) (tF K p ds ds2 d (eIf c1 f1 f2)):=⟨Ek hc.h ha.h hb.h⟩
theorem ag  : QA X [] (tFA K p ds ds [] ah):=⟨zo⟩
theorem ae (ha:QE X e (tF K p ds ds1 d f)) (hr:QA X es (tFA K p ds1 ds2 sh fa)) (hs:aK e=true):QA X (e :: es) (tFA K p ds ds2 (.inl d :: sh) (af f fa)):=⟨rz ha.h hr.h hs⟩
theorem aV {x:Str} (hN:X.N[i]?=some x) (hv:Vis X.env.scope x) (hr:QA X es (tFA K p ds ds2 sh fa)) (hd:(x == ("__debug__" : Str))=false) (hcd:(x == ("__classdict__" : Str))=false):QA X (.Name x pos :: es) (tFA K p ds ds2 (.inr i :: sh) (aH i fa)):=⟨rq hN hv hr.h hd hcd⟩
theorem aR {c:Nat} (h:QA X es (tFA K p ds ds1 sh fa)) (hs:cO c sh=true) (hd:dn d=c) (hz:d≠0):QE X (.List es pos) (tF K p ds ds1 d (aG fa)):=⟨C7 h.h hs hd hz⟩
theorem eI {c:Nat} {x1} (h:QA X es (tFA K p ds ds1 sh fa)) (hs:cO c sh=true) (hd:dn d=c):QE X (.Tuple es x1 pos) (tF K p ds ds1 d (cN fa)):=⟨C1 h.h hs hd⟩
theorem aB {id:String} {x:Str} {px:Pos} {g:List D→Option D} (hc:CallR X (.builtin id) (rFn K g d)) (hg:Gl X x) (hm:X.mg x=none) (hv:bootBuiltins x=some (.builtin id)) (ha:QA X (e :: es) (tFA K p ds ds1 sh fa)) (hsh:cO 0 sh=true) (hn:x≠"__name__") (hdb:(x == ("__debug__" : Str))=false) (he:aK e=true) (hpl:es.all aK=true):QE X (.Call (.Name x px) (e :: es) [] pos) (tF K p ds ds1 d (eN g fa)):=⟨rn hc hg hm hv ha.h hsh hn hdb he hpl⟩
theorem bi {T:String} {x:Str} {px:Pos} {g:List D→Option D} (hc:CallR X (.type T) (rFn K g d)) (hg:Gl X x) (hm:X.mg x=none) (hv:bootBuiltins x=some (.type T)) (ha:QA X (e :: es) (tFA K p ds ds1 sh fa)) (hsh:cO 0 sh=true) (hn:x≠"__name__") (hdb:(x == ("__debug__" : Str))=false) (he:aK e=true) (hpl:es.all aK=true):QE X (.Call (.Name x px) (e :: es) [] pos) (tF K p ds ds1 d (eN g fa)):=⟨pU hc hg hm hv ha.h hsh hn hdb he hpl⟩
theorem bo {k:Nat} {x:Str} {ps:List Str} {px:Pos} {dps:List Nat} {dr:Nat} {F:List D→Option (D × En)} (G:Kn X.prog X.w X.K X.mg X.base k x ps (spF K dps dr F)) (hr:Room k X.A) (hg:Gl X x) (ha:QA X (e :: es) (tFA K p ds ds1 sh fa)) (hns:gK sh=true) (hcd:eY ds1 sh dps=true) (hdb:(x == ("__debug__" : Str))=false) (he:aK e=true) (hpl:es.all aK=true):QE X (.Call (.Name x px) (e :: es) [] pos) (tF K p ds ds1 dr (ax F fa)):=⟨Em G hr hg ha.h hns hcd hdb he hpl⟩
theorem bf {k:Nat} {x:Str} {ps:List Str} {px:Pos} {dps:List Nat} {dr:Nat} {F:List D→Option (D × En)} (G:Kn X.prog X.w X.K X.mg X.base k x ps (spF K dps dr F)) (hr:Room k X.A) (hg:Gl X x) (ha:QA X (e :: es) (tFA K false ds ds1 sh fa)) (hcd:eY ds1 sh dps=true) (hdb:(x == ("__debug__" : Str))=false) (he:aK e=true) (hpl:es.all aK=true):QE X (.Call (.Name x px) (e :: es) [] pos) (tF K false ds ds1 dr (ax F fa)):=⟨Db G hr hg ha.h hcd hdb he hpl⟩
theorem aO {g:D→D→Option D} (ho:IxR X (rF2 K g d)) (ha:QE X a (tF K p ds ds1 d1 f1)) (hb:QE X b (tF K p ds1 ds2 d2 f2)) (hs:eR b):QE X (.Subscript a b pos) (tF K p ds ds2 d (e2 g f1 f2)):=⟨Ej ho ha.h hb.h hs⟩
theorem mM {x:Str} {px:Pos} (hK:X.K=K) (hN:X.N[i]?=some x) (hv:Vis X.env.scope x) (h1:ds1[i]?=some 1) (hb:QE X b (tF K p ds ds1 d1 f)) (hs:eR b) (hd:(x == ("__debug__" : Str))=false) (hcd:(x == ("__classdict__" : Str))=false):QE X (.Subscript (.Name x px) b pos) (tF K p ds ds1 0 (jL i f)):=⟨C8 hK hN hv h1 hb.h hs hd hcd⟩
theorem cC {c:Nat} {x:Str} {px apos cpos:Pos} (hK:X.K=K) (hN:X.N[i]?=some x) (hv:Vis X.env.scope x) (h1:ds1[i]?=some d) (he:QE X e (tF K false ds ds1 c f)) (hz:d≠0) (hc:dn d=c) (hd:(x == ("__debug__" : Str))=false) (hcd:(x == ("__classdict__" : Str))=false) (hbase:attributeBase (.Name x px) "append" X.env (eval (.Name x px) X.env)=eval (.Name x px) X.env) (hfew:((backTo cpos (starEach [e] X.env)).all (fun x=>!x.1) && (backToKw cpos (keywordEach [] X.env)).all (fun x=>x.1.isSome) && decide (([e]:List Expr).length+([]:List Keyword).length+(if ([]:List Keyword).isEmpty then 0 else 1) < 30))=true) (hline:(apos.endLine == cpos.line)=true) (hs:starEach [e] X.env=[(false,eval e X.env)]) (hplain:(backTo cpos (starEach [] X.env)).any (·.1)=false):QE X (.Call (.Attribute (.Name x px) "append" apos) [e] [] cpos) (tF K false ds ds1 3 (bP i f)):=⟨De hK hN hv h1 he.h hz hc hd hcd hbase hfew hline hs hplain⟩
theorem be  : QTs X [] (tFT K p ds ds cY):=⟨yx⟩
theorem iR (hc:QT X c (tFT K p ds ds1 c1)):QTs X [c] (tFT K p ds ds1 c1):=⟨yw hc.h⟩
theorem cc {elt tg iter:Expr} {ifs:List Expr} {scope:Scope} {ns:List Str} {js:List (Option Nat)} {fi:MI} {g:MG} {lk:List Nat} {cd:Nat} (B:BlkOkC X scope ns js) (hc:X.calm=true) (hi:QI X tg iter (tFI K p ds ds1 fi)) (hg:∀ C cl s₀ H₀ fp,QG (aW X scope ns C cl s₀ H₀ fp) tg (tFG K lk dsi dsi g)) (ht:∀ C cl s₀ H₀ fp,QTs (aW X scope ns C cl s₀ H₀ fp) ifs (tFT K true dsi dsi c1)) (he:∀ C cl s₀ H₀ fp,QE (aW X scope ns C cl s₀ H₀ fp) elt (tF K true dsi dsi cd f)) (hcap:gz ds1 js dsi=true) (hd:dn d=cd) (hz:d≠0) (hlk:lk=gy js 0) (hs:∀ x,foldedSetIterable iter X.env x=pure x):QE X (.ListComp elt [⟨tg,iter,ifs,0⟩] scope pos) (tF K p ds ds1 d (eLC true fi g c1 f js)):=⟨Ei B hc hi.h (fun C cl s₀ H₀ fp=>(hg C cl s₀ H₀ fp).h) (fun C cl s₀ H₀ fp=>(ht C cl s₀ H₀ fp).h) (fun C cl s₀ H₀ fp=>(he C cl s₀ H₀ fp).h) hcap hd hz hlk hs⟩
end
section
variable {X:Cx} {K:PySem.W.Frag} {p p1 p2 q:Bool} {J:Jd} {ds ds0 ds1 ds2 ds' dsi dps:List Nat} {d d' d1 d2 dr:Nat} {a b c e tg iter:Expr} {es:List Expr} {st:Stmt} {rest body bodyB:List Stmt} {f f1 f2 fk fe:ME} {c1 c2:MT} {fa:MA} {sh:Sh} {pos px:Pos} {i:Nat} {x:Str} {m m1 m2:MS} {g:MG} {gs:List D→En→Option En} {fi:MI} {lk:List Nat}
theorem bh  : QSs X [] (tFS K J ds ds bD):=⟨yD⟩
theorem ai (h1:QS X st (tFS K J ds ds1 m1)) (h2:QSs X rest (tFS K J ds1 ds2 m2)):QSs X (st :: rest) (tFS K J ds ds2 (ak m1 m2)):=⟨qT h1.h h2.h⟩
theorem au (h1:QS X st (tFS K J ds ds1 m1)):QSs X [st] (tFS K J ds ds1 m1):=⟨yC h1.h⟩
theorem cj (he:QE X e (tF K false ds ds1 d f)) (hs:swapsWith e none pos.line X.env=pure false):QS X (.Expr e pos) (tFS K J ds ds1 (bQ f)):=⟨yM he.h hs⟩
theorem aF (he:QE X e (tF K false ds ds1 J.dr f)) (hd:leD J.dsr ds1=true):QS X (.Return (some e) pos) (tFS K J ds ds' (aQ f)):=⟨yK he.h hd⟩
theorem br (hc:QT X c (tFT K false ds ds1 c1)) (ha:QSs X body (tFS K J ds1 ds2 m1)) (hb:QSs X bodyB (tFS K J ds1 ds2 m2)):QS X (.If c body bodyB pos) (tFS K J ds ds2 (sIf c1 m1 m2)):=⟨CN hc.h ha.h hb.h⟩
theorem av {x:Str} {pos':Pos} (hN:X.N.Nodup) (hi:X.N[i]?=some x) (hx:Loc X.env.scope x) (he:QE X e (tF K false ds ds1 d f)) (hds:ds1.set i d=ds') (hl:i < ds1.length) (hk:i ∉ J.lk) (hs:swapsWith e (some (.Name x pos')) pos.line X.env=pure false) (hf:X.fn x=true∨X.env.scope.names.lookup x=some .local):QS X (.Assign [.Name x pos'] e pos) (tFS K J ds ds' (ar i f)):=⟨yJ hN hi hx he.h hds hl hk hs hf⟩
theorem cJ {x:Str} {spos pos':Pos} {elt:Expr} {ifs:List Expr} {scope:Scope} {ns:List Str} {js:List (Option Nat)} {cd:Nat} (hN:X.N.Nodup) (hi':X.N[i]?=some x) (hx:X.env.scope.names.lookup x=some .local) (B:BlkOkC X scope ns js) (hc:X.calm=true) (hi:QI X tg iter (tFI K false ds ds1 fi)) (hg:∀ C cl s₀ H₀ fp,QG (aW X scope ns C cl s₀ H₀ fp) tg (tFG K lk dsi dsi g)) (ht:∀ C cl s₀ H₀ fp,QTs (aW X scope ns C cl s₀ H₀ fp) ifs (tFT K q dsi dsi c1)) (he:∀ C cl s₀ H₀ fp,QE (aW X scope ns C cl s₀ H₀ fp) elt (tF K q dsi dsi cd f)) (hds:ds1.set i d=ds') (hcap:gz ds1 js dsi=true) (hd:dn d=cd) (hz:d≠0) (hlk:lk=gy js 0) (hl:i < ds1.length) (hk:i ∉ J.lk) (hsw:swapsWith (.ListComp elt [⟨tg,iter,ifs,0⟩] scope pos) (some (.Name x pos')) spos.line X.env=pure true) (hs:∀ x,foldedSetIterable iter X.env x=pure x):QS X (.Assign [.Name x pos'] (.ListComp elt [⟨tg,iter,ifs,0⟩] scope pos) spos) (tFS K J ds ds' (ar i (eLC q fi g c1 f js))):=⟨pK hN hi' hx B hc hi.h (fun C cl s₀ H₀ fp=>(hg C cl s₀ H₀ fp).h) (fun C cl s₀ H₀ fp=>(ht C cl s₀ H₀ fp).h) (fun C cl s₀ H₀ fp=>(he C cl s₀ H₀ fp).h) hds hcap hd hz hlk hl hk hsw hs⟩
theorem oD {c:Nat} {x:Str} {spos:Pos} {k:Expr} (hN:X.N[i]?=some x) (hv:Vis X.env.scope x) (he:QE X e (tF K false ds ds1 c fe)) (hk:QE X k (tF K false ds1 ds2 d2 fk)) (h1:ds2[i]?=some d) (hz:d≠0) (hc:dn d=c) (hdb:(x == ("__debug__" : Str))=false) (hcd:(x == ("__classdict__" : Str))=false) (ha:∀ v,assign (.Subscript (.Name x px) k spos) X.env v=(do
   let ov ← holding [v] (eval (.Name x px) X.env)
   let iv ← holding [v,ov] (eval k X.env)
   standAt spos
   holding [v,ov,iv] (setItem ov iv v)
   release [v,ov,iv] [])) (hs:swapsWithSole [.Subscript (.Name x px) k spos] e pos.line X.env=pure false) (hw:swappedStores [.Subscript (.Name x px) k spos] e X.env=pure none) (h2:(assignEach [.Subscript (.Name x px) k spos] X.env).map (·.2)=[assign (.Subscript (.Name x px) k spos) X.env]):QS X (.Assign [.Subscript (.Name x px) k spos] e pos) (tFS K J ds ds2 (gg i fk fe)):=⟨qW hN hv he.h hk.h h1 hz hc hdb hcd ha hs hw h2⟩
theorem aD {x:Str} (hN:X.N.Nodup) (hi:X.N[i]?=some x) (hx:Loc X.env.scope x) (hds:ds.set i 0=ds') (hl:i < ds.length) (hk:i ∉ lk) (hf:X.fn x=true∨X.env.scope.names.lookup x=some .local):QG X (.Name x pos) (tFG K lk ds ds' (gN i)):=⟨rh hN hi hx hds hl hk hf⟩
theorem j7  : QGs X [] (fm K lk ds ds gs0):=⟨rf⟩
theorem eV (h1:QG X e (tFG K lk ds ds1 g)) (h2:QGs X es (fm K lk ds1 ds2 gs)) (hs:(assignEach (e :: es) X.env).map (·.2)=assign e X.env :: (assignEach es X.env).map (·.2)):QGs X (e :: es) (fm K lk ds ds2 (gsC g gs)):=⟨pS h1.h h2.h hs⟩
theorem kY {k n:Nat} (hK:X.K=K) (hc:X.calm=true) (h:QGs X es (fm K lk ds ds1 gs)) (hl:∀ ts en,(∃ en',gs ts en=some en')→ts.length=n) (hn:(assignEach es X.env).length=n) (hst:(assignEach es X.env).findIdx? (·.1)=none):QG X (.Tuple es k pos) (tFG K lk ds ds1 (gT gs)):=⟨zb hK hc h.h hl hn hst⟩
theorem dP (hc:X.calm=true) (hi:QI X tg iter (tFI K false ds ds1 fi)) (hg:QG X tg (tFG K J.lk ds1 ds2 g)) (hb:QSs X body (tFS K { J with dsl:=ds1 } ds2 ds1 m)) (hp:PassesOwn (model X.prog X.w) X.A X.env X.xe) (hs:∀ x,foldedSetIterable iter X.env x=pure x):QS X (.For tg iter body [] pos) (tFS K J ds ds1 (cR fi g m)):=⟨yL hc hi.h hg.h hb.h hp hs⟩
theorem jq (hc:QT X c (tFT K false ds ds1 c1)) (hb:QSs X body (tFS K { J with dsl:=ds } ds1 ds m)) (hp:PassesOwn (model X.prog X.w) X.A X.env X.xe):QS X (.While c body [] pos) (tFS K J ds ds1 (cw c1 m)):=⟨pJ hc.h hb.h hp⟩
end
section
variable {X:Cx} {K:PySem.W.Frag} {p:Bool} {ds ds1:List Nat} {d:Nat} {e tg l:Expr} {f:ME} {fa:MA} {sh:Sh}
theorem ba (hK:X.K=K) (hl:QE X l (tF K p ds ds1 d f)):QI X tg l (tFI K p ds ds1 (bb f)):=⟨CV hK hl.h⟩
theorem kW {a:Expr} {px pos:Pos} (hg:Gl X "range") (hm:X.mg "range"=none) (ha:QA X [a] (tFA K p ds ds1 sh fa)) (hs:aK a=true):QI X tg (.Call (.Name "range" px) [a] [] pos) (tFI K p ds ds1 (cf fa)):=⟨yX hg hm ha.h hs⟩
theorem pP {a b:Expr} {px pos:Pos} (hg:Gl X "range") (hm:X.mg "range"=none) (ha:QA X [a,b] (tFA K p ds ds1 sh fa)) (hs:aK a=true) (hs2:aK b=true):QI X tg (.Call (.Name "range" px) [a,b] [] pos) (tFI K p ds ds1 (iQ fa)):=⟨yW hg hm ha.h hs hs2⟩
end
section
variable {X:Cx} {K:PySem.W.Frag} {p:Bool} {ds ds1:List Nat} {d1:Nat} {e:Expr} {f:ME}
theorem cu {T:Str} {n:String} {px pt pos:Pos} (hK:X.K=K) (hg:Gl X "isinstance") (hm:X.mg "isinstance"=none) (hgT:Gl X T) (hmT:X.mg T=none) (hbT:bootBuiltins T=some (.type n)) (hT:n∈["int", "bool", "str", "list", "tuple", "dict"]) (he:QE X e (tF K p ds ds1 d1 f)) (hnT:T≠"__name__") (hdT:(T == ("__debug__" : Str))=false) (hs1:starEach [e,.Name T pt] X.env=(false,eval e X.env) :: starEach [.Name T pt] X.env) (hs2:starEach [.Name T pt] X.env=(false,eval (.Name T pt) X.env) :: starEach [] X.env) (hpl:(backTo pos (starEach [.Name T pt] X.env)).any (·.1)=false):QE X (.Call (.Name "isinstance" px) [e,.Name T pt] [] pos) (tF K p ds ds1 3 (e1 (aJ n) f)):=⟨C9 hK hg hm hgT hmT hbT hT he.h hnT hdT hs1 hs2 hpl⟩
end
section
variable {X:Cx} {K:PySem.W.Frag} {p:Bool} {J:Jd} {ds ds0 ds1 ds2 ds3 ds':List Nat} {d d' d1 d2 d3:Nat} {a b c e:Expr} {st:Stmt} {f f1 f2 f3:ME} {m:MS} {pos p2:Pos}
theorem fc (h:QS X st (tFS K J ds ds2 m)) (hd:leD ds1 ds2=true):QS X st (tFS K J ds ds1 m):=⟨yI h.h hd⟩
theorem cm  : QO X none (tFO K p ds ds b9):=⟨yU⟩
theorem ck (h:QE X e (tF K p ds ds1 d f)):QO X (some e) (tFO K p ds ds1 (bR f)):=⟨yS h.h⟩
variable {lo hi:MO}
theorem bT {g:D→Option Int→Option Int→Option D} {elo ehi:Option Expr} (hr:SlR X (rFs K g d)) (he:QE X e (tF K p ds ds1 d1 f)) (hl:QO X elo (tFO K p ds1 ds2 lo)) (hu:QO X ehi (tFO K p ds2 ds3 hi)):QE X (.Subscript e (.Slice elo ehi none p2) pos) (tF K p ds ds3 d (eSl g f lo hi)):=⟨rj hr he.h hl.h hu.h⟩
end
section
variable {X:Cx} {K:PySem.W.Frag} {p:Bool} {J:Jd} {ds ds0 ds1 ds2 ds':List Nat} {d d' d1 d2:Nat} {a b c e o k:Expr} {f f1 f2 fk fe:ME} {pos px spos:Pos} {i:Nat} {σ:St} {H:Hp} {Q:VK} {Dn:Ends}
theorem pT  : QE X (.Dict [] [] pos) (tF K p ds ds 3 kc):=⟨zl⟩
theorem dZ {x:Str} (hu:X.A.units+1 < cLine) (hN:X.N[i]?=some x) (hv:Vis X.env.scope x) (h1:ds1[i]?=some 1) (hi:QE X k (tF K p ds ds1 d1 f)) (hs:oN k) (hd:(x == ("__debug__" : Str))=false) (hcd:(x == ("__classdict__" : Str))=false):QE X (.Subscript (.Name x px) k pos) (tF K p ds ds1 0 (bC i f)):=⟨rm hu hN hv h1 hi.h hs hd hcd⟩
theorem io {x:Str} (hu:X.A.units+1 < cLine) (hN:X.N[i]?=some x) (hv:Vis X.env.scope x) (he:QE X e (tF K false ds ds1 0 fe)) (hk:QE X k (tF K false ds1 ds2 d2 fk)) (h1:ds2[i]?=some 1) (hdb:(x == ("__debug__" : Str))=false) (hcd:(x == ("__classdict__" : Str))=false) (hs:swapsWith e (some (.Subscript (.Name x px) k spos)) pos.line X.env=pure false):QS X (.Assign [.Subscript (.Name x px) k spos] e pos) (tFS K J ds ds2 (cP i fk fe)):=⟨qX hu hN hv he.h hk.h h1 hdb hcd hs⟩
end
section
variable {X:Cx} {K:PySem.W.Frag} {p:Bool} {J:Jd} {ds ds0 ds1 ds2 ds':List Nat} {d d' d1 d2:Nat} {a b c e o k:Expr} {es:List Expr} {f f1 f2 fk fe:ME} {fa:MA} {sh:Sh} {pos px spos:Pos} {i j:Nat} {σ:St} {H:Hp} {Q:VK} {Dn:Ends}
theorem k6 {keys:List (Option Expr)} {values:List Expr} {fs:List (ME × ME)} (h:QPs X pos keys values (trs K p ds fs)) (hall:keys.all (·.isSome)=true) (hl:keys.length=values.length) (h0:keys≠[]) (h15:keys.length≤15):QE X (.Dict keys values pos) (tF K p ds ds 1 (fG fs)):=⟨zm h.h hall hl h0 h15⟩
theorem mG  : QPs X pos [] [] (trs K p ds []):=⟨CP⟩
theorem gi {k v:Expr} {ks:List (Option Expr)} {vs:List Expr} {fk fv:ME} {fs:List (ME × ME)} (hk:QE X k (tF K p ds ds 3 fk)) (hv:QE X v (tF K p ds ds 0 fv)) (hr:QPs X pos ks vs (trs K p ds fs)):QPs X pos (some k :: ks) (v :: vs) (trs K p ds ((fk,fv) :: fs)):=⟨yO hk.h hv.h hr.h⟩
end
section
variable {X:Cx} {K:PySem.W.Frag} {p:Bool} {ds ds1:List Nat} {O:AS} {H:Hp} {σ:St} {d:Nat} {f:ME} {i:Nat} {e:Expr} {Q:VK}
end
section
variable {X:Cx} {K:PySem.W.Frag} {p:Bool} {ds ds1:List Nat} {d:Nat} {fa:MA} {sh:Sh} {O O1:AS} {H0 H:Hp} {ts us:List D} {vs ws:List V} {a b:Addr}
theorem mL {l m:Expr} {px pos:Pos} {elts:List Expr} {k:Nat} {tp:Pos} (hK:X.K=K) (hg:Gl X "zip") (hm:X.mg "zip"=none) (ha:QA X [l,m] (tFA K p ds ds1 sh fa)) (hs:aK l=true) (hs2:aK m=true):QI X (.Tuple elts k tp) (.Call (.Name "zip" px) [l,m] [] pos) (tFI K p ds ds1 (jf fa)):=⟨CU hK hg hm ha.h hs hs2⟩
end
section
variable {X:Cx} {K:PySem.W.Frag} {p:Bool} {ds ds1:List Nat} {d1:Nat} {e:Expr} {f:ME}
end
section
variable {X:Cx} {K:PySem.W.Frag} {p p1 p2:Bool} {ds ds1 ds2:List Nat} {d d1:Nat} {e:Expr} {f:ME} {fa:MA} {sh:Sh} {σ:St} {H:Hp} {Q:VK}
end
section
variable {X:Cx} {K:PySem.W.Frag} {p p1 p2:Bool} {J:Jd} {ds ds1 ds2:List Nat} {H:Hp} {σ:St} {d d1 d2 i m:Nat} {f fk fe:ME} {mp:MP} {e b o:Expr} {Q:VK}
theorem kU {x:Str} {px:Pos} (hN:X.N[i]?=some x) (hv:Vis X.env.scope x) (hd:(x == ("__debug__" : Str))=false) (hcd:(x == ("__classdict__" : Str))=false):QE X (.Name x px) (tP K true ds ds i 0 (fQ i)):=⟨yN hN hv hd hcd⟩
theorem mF {pos:Pos} (hK:X.K=K) (hd:ds2[i]?=some d) (ho:QE X o (tP K p1 ds ds1 i m mp)) (hb:QE X b (tF K p2 ds1 ds2 d1 f)) (hz:dns m d≠0) (hpu:p2=true∨m=0) (hs:eR b):QE X (.Subscript o b pos) (tP K (p1 && p2) ds ds2 i (m+1) (pIx i mp f)):=⟨CO hK hd ho.h hb.h hz hpu hs⟩
theorem j6 {c:Nat} {ds0:List Nat} {spos pos:Pos} {k:Expr} (hd:ds2[i]?=some d) (he:QE X e (tF K p ds ds0 c fe)) (ho:QE X o (tP K p1 ds0 ds1 i m mp)) (hk:QE X k (tF K p2 ds1 ds2 d2 fk)) (hz:dns m d≠0) (hc:dn (dns m d)=c) (hpu:p2=true∨m=0) (ha:∀ v,assign (.Subscript o k spos) X.env v=(do
   let ov ← holding [v] (eval o X.env)
   let iv ← holding [v,ov] (eval k X.env)
   standAt spos
   holding [v,ov,iv] (setItem ov iv v)
   release [v,ov,iv] [])) (hs:swapsWithSole [.Subscript o k spos] e pos.line X.env=pure false) (hw:swappedStores [.Subscript o k spos] e X.env=pure none) (h2:(assignEach [.Subscript o k spos] X.env).map (·.2)=[assign (.Subscript o k spos) X.env]):QS X (.Assign [.Subscript o k spos] e pos) (tFS K J ds ds2 (fB i mp fk fe)):=⟨qV hd he.h ho.h hk.h hz hc hpu ha hs hw h2⟩
end
section
variable {X:Cx} {K:PySem.W.Frag} {p p1 p2:Bool} {ds ds1 ds2:List Nat} {d d1 d2:Nat} {e k:Expr} {f f1 f2:ME} {fa:MA} {sh:Sh} {σ:St} {H:Hp} {Q Q':VK} {pos pos2 px py:Pos}
theorem kZ (hK:X.K=K) (he:QE X e (tF K p ds ds1 d1 f1)) (hk:QE X k (tF K p ds1 ds2 d2 f2)):QE X (.Subscript e (.Slice none none (some k) pos2) pos) (tF K p ds ds2 1 (e2 jC f1 f2)):=⟨zd hK he.h hk.h⟩
end
section
variable {X:Cx} {K:PySem.W.Frag} {p p1 p2:Bool} {ds ds1 ds2:List Nat} {d d1 d2:Nat} {a b:Expr} {f f1 f2:ME} {σ:St} {H:Hp} {Q Q':VK} {pos:Pos} {ta tb:TE} {rest:List Expr}
end
section
variable {X:Cx} {K:PySem.W.Frag} {p p1 p2:Bool} {ds ds1 ds2:List Nat} {d d1 d2:Nat} {a b:Expr} {f f1 f2:ME} {σ:St} {H:Hp} {Q Q':VK} {pos:Pos}
end
section
variable {X:Cx} {K:PySem.W.Frag} {p p1 p2:Bool} {ds ds1 ds2:List Nat} {d d1 d2:Nat} {e:Expr} {f f1 f2:ME} {σ:St} {H:Hp} {Q Q':VK}
end
section
variable {X:Cx} {K:PySem.W.Frag} {p:Bool} {ds ds1 ds2:List Nat} {d d1 d2:Nat} {e:Expr} {f f1 f2:ME} {σ:St} {H:Hp} {Q Q':VK}
end
section
variable {X:Cx} {K:PySem.W.Frag} {p p1 p2:Bool} {ds ds1 ds2:List Nat} {d d1 d2:Nat} {e k:Expr} {f f1 f2:ME} {fa:MA} {sh:Sh} {σ:St} {H:Hp} {Q Q':VK} {pos pos2 px py:Pos}
end
section
variable {X:Cx} {K:PySem.W.Frag} {p p1 p2:Bool} {ds ds1 ds2:List Nat} {d d1 d2:Nat} {e:Expr} {f f1 f2:ME} {σ:St} {H:Hp} {Q Q':VK} {i:Nat}
end
section
variable {X:Cx} {K:PySem.W.Frag} {p p1 p2 q:Bool} {J:Jd} {ds ds0 ds1 ds2 ds' dsi dps:List Nat} {d d' d1 d2 dr:Nat} {a b c e tg iter:Expr} {es:List Expr} {st:Stmt} {rest body bodyB:List Stmt} {f f1 f2 fk fe:ME} {c1 c2:MT} {fa:MA} {sh:Sh} {pos px:Pos} {i:Nat} {x:Str} {m m1 m2:MS} {g:MG} {gs:List D→En→Option En} {fi:MI} {lk:List Nat}
end
section
variable {X:Cx} {K:PySem.W.Frag} {p:Bool} {ds ds1:List Nat} {d:Nat} {fa:MA} {sh:Sh} {O O1:AS} {H0 H:Hp} {ts us:List D} {vs ws:List V} {a b:Addr}
end
section
variable {X:Cx} {K:PySem.W.Frag} {J:Jd} {lk ds ds0 ds1 ds2 ds':List Nat} {e tg:Expr} {es:List Expr} {f:ME} {pos px:Pos} {i:Nat} {g:MG} {gs:List D→En→Option En}
theorem kX {j:Nat} {x y:Str} {py spos:Pos} (hN:X.N[i]?=some x) (hv:Vis X.env.scope x) (hNj:X.N[j]?=some y) (hvj:Vis X.env.scope y) (hd:ds[i]?=some 1) (hdb:(x == ("__debug__" : Str))=false) (hcd:(x == ("__classdict__" : Str))=false) (hdb2:(y == ("__debug__" : Str))=false) (hcd2:(y == ("__classdict__" : Str))=false) (ha:∀ v,assign (.Subscript (.Name x px) (.Name y py) spos) X.env v=(do
   let ov ← holding [v] (eval (.Name x px) X.env)
   let iv ← holding [v,ov] (eval (.Name y py) X.env)
   standAt spos
   holding [v,ov,iv] (setItem ov iv v)
   release [v,ov,iv] [])):QG X (.Subscript (.Name x px) (.Name y py) spos) (tFH K lk ds ds (gS i j)):=⟨y8 hN hv hNj hvj hd hdb hcd hdb2 hcd2 ha⟩
theorem oG  : QGs X [] (fj K lk ds ds gs0):=⟨q0⟩
theorem jr (h1:QG X e (tFH K lk ds ds1 g)) (h2:QGs X es (fj K lk ds1 ds2 gs)) (hs:(assignEach (e :: es) X.env).map (·.2)=assign e X.env :: (assignEach es X.env).map (·.2)):QGs X (e :: es) (fj K lk ds ds2 (gsC g gs)):=⟨pQ h1.h h2.h hs⟩
theorem pR {k n:Nat} (hK:X.K=K) (hc:X.calm=true) (h:QGs X es (fj K lk ds ds1 gs)) (hl:∀ ts en,(∃ en',gs ts en=some en')→ts.length=n) (hn:(assignEach es X.env).length=n) (hst:(assignEach es X.env).findIdx? (·.1)=none):QG X (.Tuple es k pos) (tFH K lk ds ds1 (gT gs)):=⟨yZ hK hc h.h hl hn hst⟩
theorem oE (hc:X.calm=true) (he:QE X e (tF K false ds ds1 0 f)) (hg:QG X tg (tFH K J.lk ds1 ds2 g)) (hs:swapsWithSole [tg] e pos.line X.env=pure false) (hw:swappedStores [tg] e X.env=pure none) (h1:(assignEach [tg] X.env).map (·.2)=[assign tg X.env]):QS X (.Assign [tg] e pos) (tFS K J ds ds2 (jB f g)):=⟨qY hc he.h hg.h hs hw h1⟩
end
end L2
namespace L2
open PySem PySem.Spec PyProof.Rows
theorem Fun.okQ {P:Program} {w:World} {K:PySem.W.Frag} {mg:Str→Option Value} {base:Heap} {x qual:Str} {st:Stmt} {f:Addr} {fd:FuncData} {N ps:List Str} {k n dr:Nat} {dps ds0:List Nat} {J:Jd} {b:MS}
  (F:Fun K x qual st f fd) (S:FnScope N ps (aq st)) (hl:dps.length=ps.length) (hn:N.length - dps.length=n) (hJ:J=⟨mq dps,dps++List.replicate n 0,dr,[]⟩) (hd:ds0=dps++List.replicate n 0)
  (hb:∀ (cdv:Value) (A:Around) (outer:List Env) (s:Shared) (H:Hp) (E:XK),Room k (A.deeper (envOfC qual (aq st) s.heap.objs.size f cdv)) →
   QSs (jM CX0 P w K mg base N qual (aq st) f cdv A outer s H E).nox (cL st) (tFS K J ds0 ds0 b)):FnOk P w K mg base CX0 (k+1) f fd ps (spF K dps dr (fnF n dps b)):=by
 subst hJ hd
 exact F.ok S (fun vs H Q E h=>xJ hl h) fun cdv A outer s H vs Q E hr h=>⟨_,(hb cdv A outer s H E hr).h,yV hn h⟩
def Ci (F:List D→Option (D × En)):Prop:=∀ ns:List Int,ns.length≤63→∃ outs,F [.list (ns.map .int)]=some (.bool true,outs)
def jT (K:PySem.W.Frag):Sp:=fun vs H Q _=>∃ (a:Addr) (ns:List Int),vs=[.ref a]∧SqL K H a (ns.map V.int)∧(∀ b,H b=none∨∃ o xs,H b=some (.frz o (.lst xs)))∧ns.length≤63∧∀ H':Hp,Q (.bl true) H'
theorem jp {K:PySem.W.Frag} {O:AS} {H:Hp}:∀ ns:List Int,Ows K O H (ns.map .int) 0 (ns.map V.int) NoA
 | []=>rfl
 | n :: r=>⟨.int n,r.map V.int,NoA,NoA,rfl,fun _ z=>z,fun _ z=>z,fun _ z=>z.elim,rfl,jp r⟩
theorem Ch {K:PySem.W.Frag} {dr:Nat} {F:List D→Option (D × En)} (h:Ci F) {vs:List V} {H:Hp} {Q:VK} {E:XK} (q:jT K vs H Q E):spF K [0] dr F vs H Q E:=by
 obtain ⟨a,ns,rfl,hs,_,hl,q⟩:=q
 obtain ⟨outs,e⟩:=h ns hl
 have fz:FzL K (fun _=>False) H a (ns.map V.int):=by
  rcases hs with hs | hs
  ·exact .inl ⟨hs,fun z=>z⟩
  ·exact .inr fun H'=>.inr hs
 have eO:Own (fun _=>NoA) NoA=(fun _=>False):=dG fun b=>⟨fun z=>z.elim (fun ⟨_,z⟩=>z) fun z=>z,fun z=>z.elim⟩
 refine ⟨NoA,[.list (ns.map .int)],fun _=>NoA,.bool true,outs,⟨fun i t hi=>?_,fun _ _ _ z=>z.elim,fun _ _ z=>z.elim,fun b z=>?_,rfl,rfl⟩,e,fun v H' R' Fr _ o=>?_⟩
 ·cases i with
  | zero =>
   have:t=.list (ns.map .int):=by
    have h2:some (some (PyData.list (ns.map .int)))=some (some t):=hi
    injection h2 with h3
    injection h3 with h4
    exact h4.symm
   subst this
   refine ⟨.ref a,0,rfl,rfl,?_⟩
   rw [eO]
   exact ⟨a,ns.map V.int,rfl,.inl ⟨rfl,fz,jp ns⟩⟩
  | succ i=>simp at hi
 ·rw [eO] at z
  exact z.elim
 ·rw [show v=.bl true from o]
  exact q H'
end L2
namespace L2
open PySem PySem.Spec PyProof.Rows
inductive All2 (r:D→D→Prop):List D→List D→Prop
 | nil:All2 r [] []
 | cons {a b:D} {as bs:List D} (h:r a b) (t:All2 r as bs):All2 r (a :: as) (b :: bs)
section
variable {c:MT} {b:MS} {en en1 en2:En} {fl:Fl} {t:D}
theorem hU:∀ {n m:Nat} {en:En} {fl:Fl},whN c b n en=some fl→n≤m→whN c b m en=some fl
 | 0,_,_,_,h,_=>by cases h
 | n+1,0,_,_,_,h=>by omega
 | n+1,m+1,en,fl,h,hm=>by
  unfold whN at h ⊢
  obtain ⟨r,h1,h⟩:=Option.bind_eq_some_iff.mp h
  rw [h1]
  show (if r.1=true then _ else _)=_
  by_cases hr:r.1=true
  ·rw [if_pos hr] at h ⊢
   obtain ⟨f1,h2,h⟩:=Option.bind_eq_some_iff.mp h
   rw [h2]
   cases f1 with
   | nx e=>exact hU (n:=n) (m:=m) h (by omega)
   | ct e=>exact hU (n:=n) (m:=m) h (by omega)
   | rt t e=>exact h
  ·rw [if_neg hr] at h ⊢
   exact h
theorem gf {n:Nat} (h:whN c b n en=some fl):cw c b en=some fl:=by
 have q:∃ n fl,whN c b n en=some fl:=⟨n,fl,h⟩
 unfold cw
 rw [dif_pos q]
 have h2:=q.choose_spec.choose_spec
 have h3:=hU h (Nat.le_max_left n q.choose)
 have h4:=hU h2 (Nat.le_max_right n q.choose)
 rw [h3] at h4
 exact h4.symm
theorem m3 (h:c en=some (false,en1)):cw c b en=some (.nx en1):=by
 refine gf (n:=1) ?_
 unfold whN
 rw [h]
 rfl
theorem m4 (h:c en=some (true,en1)) (h1:b en1=some (.nx en2)) (h2:cw c b en2=some fl):cw c b en=some fl:=by
 obtain ⟨n,h3⟩:=gm h2
 refine gf (n:=n+1) ?_
 unfold whN
 rw [h]
 show (b en1).bind _=_
 rw [h1]
 exact h3
theorem nA {g:MG} {c:MT} {f:ME} (I:Nat→En→Prop) (r:D→D→Prop) {N:Nat} (hs:∀ n t en,n < N→I n en→∃ en1 en2 q en3,g t en=some en1∧c en1=some (true,en2)∧f en2=some (q,en3)∧I (n+1) en3∧r t q) :
  ∀ (ts acc:List D) (n:Nat) (en:En),I n en→n+ts.length≤N→acc.length+ts.length≤sizeLine→∃ us en',lcF g c f ts acc en=some (acc++us,en')∧I (n+ts.length) en'∧All2 r ts us
 | [],acc,n,en,hi,_,_=>⟨[],en,by rw [List.append_nil]; rfl,hi,.nil⟩
 | t :: ts,acc,n,en,hi,hN,hl=>by
  have hN':n+(ts.length+1)≤N:=hN
  obtain ⟨en1,en2,q,en3,h1,h2,h3,h4,h5⟩:=hs n t en (by omega) hi
  have hl':acc.length+(ts.length+1)≤sizeLine:=hl
  obtain ⟨us,en',h6,h7,h8⟩:=nA I r hs ts (acc++[q]) (n+1) en3 h4 (by omega) (by rw [List.length_append]; show acc.length+1+_≤_; omega)
  refine ⟨q :: us,en',?_,by rw [show n+(t :: ts).length=n+1+ts.length by show n+(ts.length+1)=_; omega]; exact h7,.cons h5 h8⟩
  unfold lcF
  rw [h1]
  show (c en1).bind _=_
  rw [h2]
  show (f en2).bind _=_
  rw [h3]
  show (if acc.length < sizeLine then _ else _)=_
  rw [if_pos (by omega),h6]
  simp
theorem All2.ex {α:Type} {h:α→D} {Q:α→Prop}:∀ {ts us:List D},All2 (fun _ q=>∃ o,q=h o∧Q o) ts us→∃ os:List α,us=os.map h∧os.length=ts.length∧∀ o∈os,Q o
 | _,_,.nil=>⟨[],rfl,rfl,fun _ z=>by cases z⟩
 | _,_,.cons ⟨o,e,q⟩ t=>by
  obtain ⟨os,e1,e2,e3⟩:=All2.ex t
  refine ⟨o :: os,by rw [e,e1]; rfl,by show os.length+1=_+1; rw [e2],fun x hx=>?_⟩
  rcases List.mem_cons.mp hx with rfl | hx
  ·exact q
  ·exact e3 x hx
theorem dY {c:MT} {f:ME} {p:D→Bool} {F:D→D} {rest:En}:∀ (ts acc:List D) (o:Option D),(∀ t∈ts,c (some t :: rest)=some (p t,some t :: rest))→(∀ t∈ts,p t=true→f (some t :: rest)=some (F t,some t :: rest))→acc.length+ts.length≤sizeLine →
  ∃ o',lcF (gN 0) c f ts acc (o :: rest)=some (acc++(ts.filter p).map F,o' :: rest)
 | [],acc,o,_,_,_=>⟨o,by simp [lcF]⟩
 | t :: ts,acc,o,hc,hf,hl=>by
  have hl':acc.length+(ts.length+1)≤sizeLine:=hl
  cases hp:p t with
  | true =>
   obtain ⟨o',h⟩:=dY (c:=c) (f:=f) (p:=p) (F:=F) ts (acc++[F t]) (some t) (fun x hx=>hc x (List.mem_cons_of_mem _ hx)) (fun x hx=>hf x (List.mem_cons_of_mem _ hx)) (by rw [List.length_append]; show acc.length+1+_≤_; omega)
   refine ⟨o',?_⟩
   unfold lcF
   show ((c (some t :: rest)).bind _)=_
   rw [hc t List.mem_cons_self,hp]
   show ((f (some t :: rest)).bind _)=_
   rw [hf t List.mem_cons_self hp]
   show (if acc.length < sizeLine then _ else _)=_
   rw [if_pos (by omega)]
   dsimp only
   rw [h,List.filter_cons_of_pos hp]
   simp
  | false =>
   obtain ⟨o',h⟩:=dY (c:=c) (f:=f) (p:=p) (F:=F) ts acc (some t) (fun x hx=>hc x (List.mem_cons_of_mem _ hx)) (fun x hx=>hf x (List.mem_cons_of_mem _ hx)) (by omega)
   refine ⟨o',?_⟩
   unfold lcF
   show ((c (some t :: rest)).bind _)=_
   rw [hc t List.mem_cons_self,hp]
   show lcF (gN 0) c f ts acc (some t :: rest)=_
   rw [h,List.filter_cons_of_neg (by rw [hp]; decide)]
theorem je {f:ME} {F:D→D} {rest:En} (ts acc:List D) (o:Option D) (hf:∀ t∈ts,f (some t :: rest)=some (F t,some t :: rest)) (hl:acc.length+ts.length≤sizeLine) :
  ∃ o',lcF (gN 0) cY f ts acc (o :: rest)=some (acc++ts.map F,o' :: rest):=by
 obtain ⟨o',h⟩:=dY (c:=cY) (f:=f) (p:=fun _=>true) (F:=F) ts acc o (fun _ _=>rfl) (fun t ht _=>hf t ht) hl
 rw [List.filter_eq_self.mpr (fun _ _=>rfl)] at h
 exact ⟨o',h⟩
theorem qZ {g:MG} {b:MS} (I:Nat→En→Prop) {ts:List D} (hs:∀ i t en,ts[i]?=some t→I i en→∃ en1 en2,g t en=some en1∧(b en1=some (.nx en2)∨b en1=some (.ct en2))∧I (i+1) en2) {en:En} (h0:I 0 en) :
  ∃ en',bS g b ts en=some (.nx en')∧I ts.length en':=by
 suffices ∀ (us:List D) (i:Nat) (en:En),ts.drop i=us→i≤ts.length→I i en→∃ en',bS g b us en=some (.nx en')∧I ts.length en' from this ts 0 en rfl (Nat.zero_le _) h0
 intro us
 induction us with
 | nil =>
  intro i en hu hi h
  refine ⟨en,rfl,?_⟩
  have:ts.length - i=0:=by rw [← List.length_drop,hu]; rfl
  rw [show ts.length=i by omega]
  exact h
 | cons t us ih =>
  intro i en hu hi h
  have ht:ts[i]?=some t:=by
   have:(ts.drop i)[0]?=some t:=by rw [hu]; rfl
   rw [List.getElem?_drop] at this
   exact this
  obtain ⟨en1,en2,h1,h2,h3⟩:=hs i t en ht h
  have hl:i < ts.length:=(List.getElem?_eq_some_iff.mp ht).1
  have hd:ts.drop (i+1)=us:=by rw [← List.drop_drop,hu]; rfl
  obtain ⟨en',h4,h5⟩:=ih (i+1) en2 hd hl h3
  refine ⟨en',?_,h5⟩
  unfold bS
  rw [h1]
  show (b en1).bind _=_
  rcases h2 with h2 | h2
  ·rw [h2]; exact h4
  ·rw [h2]; exact h4
end
section
variable {c c1 c2:MT} {m1 m2 b:MS} {en en1 en2:En} {fl:Fl} {t t1 t2 u:D} {f f1 f2:ME} {g:D→D→Option D} {fa:MA} {i n:Nat} {x y:Bool} {F:List D→Option (D × En)} {as:List (D ⊕ Nat)} {ts:List D} {outs:En} {dps:List Nat}
theorem aN (h1:m1 en=some (.nx en1)) (h2:m2 en1=some fl):ak m1 m2 en=some fl:=by unfold ak; rw [h1]; exact h2
theorem iU (h1:m1 en=some (.rt t en1)):ak m1 m2 en=some (.rt t en1):=by unfold ak; rw [h1]; rfl
theorem fg {b:Bool} (h1:c en=some (b,en1)) (hb:b=true) (h2:m1 en1=some fl):sIf c m1 m2 en=some fl:=by unfold sIf; rw [h1,hb]; exact h2
theorem kb {b:Bool} (h1:c en=some (b,en1)) (hb:b=false) (h2:m2 en1=some fl):sIf c m1 m2 en=some fl:=by unfold sIf; rw [h1,hb]; exact h2
theorem cV (h:f en=some (t,en1)) (he:en1.set i (some t)=en2):ar i f en=some (.nx en2):=by unfold ar; rw [h,← he]; rfl
theorem pW (h:f en=some (t,en1)):bQ f en=some (.nx en1):=by unfold bQ; rw [h]; rfl
theorem jj (h:f en=some (t,en1)):aQ f en=some (.rt t en1):=by unfold aQ; rw [h]; rfl
theorem bA (h1:f1 en=some (t1,en1)) (h2:f2 en1=some (t2,en2)) (h:g t1 t2=some u):e2 g f1 f2 en=some (u,en2):=by
 unfold e2
 rw [h1]
 show (f2 en1).bind _=_
 rw [h2]
 show (g t1 t2).map _=_
 rw [h]
 rfl
theorem mN {b:Bool} (h1:c1 en=some (b,en1)) (hb:b=true):bOr c1 c2 en=some (true,en1):=by unfold bOr; rw [h1,hb]; rfl
theorem j9 {b:Bool} {r:Bool × En} (h1:c1 en=some (b,en1)) (hb:b=false) (h2:c2 en1=some r):bOr c1 c2 en=some r:=by unfold bOr; rw [h1,hb]; exact h2
theorem nK {b:Bool} {r:Bool × En} (h1:c1 en=some (b,en1)) (hb:b=true) (h2:c2 en1=some r):cZ c1 c2 en=some r:=by unfold cZ; rw [h1,hb]; exact h2
theorem nL {b:Bool} (h1:c1 en=some (b,en1)) (hb:b=false):cZ c1 c2 en=some (false,en1):=by unfold cZ; rw [h1,hb]; rfl
theorem ji {b:Bool} (h:f en=some (.bool b,en1)):tV f en=some (b,en1):=by unfold tV; rw [h]; rfl
theorem jk (h1:fa en=some (as,en1)) (h2:c9 as en1=some ts) (h:F ts=some (t,outs)) (hw:wb as outs en1=en2):ax F fa en=some (t,en2):=by
 subst hw
 unfold ax
 rw [h1]
 show (c9 as en1).bind _=_
 rw [h2]
 show (F ts).map _=_
 rw [h]
 rfl
theorem mO {g:List D→Option D} (h1:fa en=some (as,en1)) (h2:bz as=some ts) (h:g ts=some t):eN g fa en=some (t,en1):=by
 unfold eN
 rw [h1]
 show (bz as).bind _=_
 rw [h2]
 show (g ts).map _=_
 rw [h]
 rfl
theorem fF {r:MA} (h1:f en=some (t,en1)) (h2:r en1=some (as,en2)):af f r en=some (.inl t :: as,en2):=by
 unfold af
 rw [h1]
 show (r en1).map _=_
 rw [h2]
 rfl
theorem mP (h1:fa en=some (as,en1)) (h2:bz as=some ts) (h:ts.length≤sizeLine):aG fa en=some (.list ts,en1):=by
 unfold aG
 rw [h1]
 show (bz as).bind _=_
 rw [h2]
 exact if_pos h
theorem Dm (h1:fa en=some (as,en1)) (h2:bz as=some ts) (h:ts.length≤sizeLine):cN fa en=some (.tuple ts,en1):=by
 unfold cN
 rw [h1]
 show (bz as).bind _=_
 rw [h2]
 exact if_pos h
theorem pX {us:List D} (h0:en[i]?=some (some (.list ts))) (h1:f en=some (t,en1)) (h2:en1[i]?=some (some (.list us))) (h:us.length < sizeLine) (he:en1.set i (some (.list (us++[t])))=en2):bP i f en=some (.none,en2):=by
 unfold bP
 rw [h0]
 show (f en).bind _=_
 rw [h1]
 show (match (en1[i]?).join with
  | some (.list ts)=>if ts.length < sizeLine then some (PyData.none,en1.set i (some (.list (ts++[t])))) else none
  | _=>none)=_
 rw [h2,← he]
 exact if_pos h
theorem ka {fi:MI} {g:MG} {js:List (Option Nat)} {q:Bool} {us:List D} {ex:En} (h1:fi en=some (ts,en1)) (h2:lcF g c f ts [] (cq js en1)=some (us,ex)) (he:(if q then en1 else wbB js ex en1)=en2):eLC q fi g c f js en=some (.list us,en2):=by
 unfold eLC
 rw [h1]
 show (lcF g c f ts [] (cq js en1)).map _=_
 rw [h2,← he]
 rfl
theorem Dp {fi:MI} {g:MG} (h1:fi en=some (ts,en1)) (h2:bS g b ts en1=some fl):cR fi g b en=some fl:=by
 unfold cR
 rw [h1]
 exact h2
theorem a8:100≤sizeLine:=by rw [sizeLine_eq]; decide
theorem dz (h:b (ts.map some++List.replicate n none)=some (.rt t en)):fnF n dps b ts=some (t,msk dps en):=by
 unfold fnF
 rw [h]
 rfl
end
namespace Pen2
def dU:MS:=(aQ (fG [((eC (.str "script")),(ac 0)),((eC (.str "at")),(ac 1)),((eC (.str "left")),(eC (.int 0)))]))
def cr:List D→Option (D × En):=fnF 0 [0,0] dU
def dD:MS:=(ak (ar 2 (e2 bW (e2 cy (e2 aZ (e2 aZ (e2 bW (ac 0) (eC (.int 2147483629))) (e2 cy (eC (.int 40503)) (ac 1))) (eC (.int 24691))) (eC (.int 48271))) (eC (.int 2147483647))))
 (ak (ar 3 (e2 bW (e2 aZ (e2 aZ (e2 cy (ac 2) (ac 2)) (e2 cy (eC (.int 69621)) (ac 2))) (ac 1)) (eC (.int 2147483629))))
 (aQ (e2 eW (e2 bW (e2 aZ (e2 aZ (e2 cy (ac 3) (ac 3)) (e2 cy (eC (.int 16807)) (ac 3))) (e2 cy (eC (.int 31)) (ac 1))) (eC (.int 1073741789))) (eC (.int 64))))))
def bV:List D→Option (D × En):=fnF 2 [0,0] dD
def fI:MS:=(ak (ar 2 (bC 0 (eC (.str "at"))))
 (ak (ar 3 (bC 0 (eC (.str "script"))))
 (ak (sIf (tV (e2 eqD (bC 0 (eC (.str "left"))) (eC (.int 0)))) (ak (cP 0 (eC (.str "at")) (e2 aZ (ac 2) (eC (.int 1))))
 (ak (ar 4 (eC (.int 0)))
 (ak (sIf (tV (e2 gtI (eN bd (af (ac 3) ah)) (eC (.int 0)))) (ar 4 (e2 ixA (ac 3) (e2 bW (ac 2) (eN bd (af (ac 3) ah))))) bD)
 (ak (sIf (bOr (tV (e2 geI (ac 2) (eN bd (af (ac 3) ah)))) (tV (e2 ltI (eN ir (af (ac 4) ah)) (e2 gp (eC (.int 10)) (eC (.int 18)))))) (aQ (e2 bW (ax bV (af (ac 4) (af (ac 2) ah))) (ac 1))) bD)
 (cP 0 (eC (.str "left")) (eN ir (af (ac 4) ah))))))) bD)
 (ak (ar 5 (e2 bW (bC 0 (eC (.str "left"))) (ac 1)))
 (ak (cP 0 (eC (.str "left")) (e2 eW (bC 0 (eC (.str "left"))) (ac 1)))
 (aQ (ac 5)))))))
def ap:List D→Option (D × En):=fnF 4 [1,0] fI
def aC (ns:List Int) (k l:Int):D:=.dict [(.str "script",.list (ns.map .int)),(.str "at",.int k),(.str "left",.int l)]
theorem mi {c k:Int} (h0:0≤k) (h1:k≤1000000000):∃ r,bV [.int c,.int k]=some (.int r,[none,none])∧0≤r:=by
 have a0:0≤c % 2147483629:=by omega
 have a1:c % 2147483629 < 2147483629:=by omega
 generalize g1:(c % 2147483629+40503 * k+24691) * 48271 % 2147483647=x
 have x0:0≤x:=by omega
 have x1:x < 2147483647:=by omega
 generalize g2:(x * x+69621 * x+k) % 2147483629=y
 have y0:0≤y:=by omega
 have y1:y < 2147483629:=by omega
 refine ⟨(y * y+16807 * y+31 * k) % 1073741789 / 64,?_,by omega⟩
 have c1:CMul 40503 k:=.inl (by decide)
 have c2:CMul (c % 2147483629+40503 * k+24691) 48271:=.inr (by decide)
 have c3:CMul x x:=.inl (by constructor <;> omega)
 have c4:CMul 69621 x:=.inl (by decide)
 have c5:CMul y y:=.inl (by constructor <;> omega)
 have c6:CMul 16807 y:=.inl (by decide)
 have c7:CMul 31 k:=.inl (by decide)
 have c8:∀ z,iB z 64:=fun z=>by unfold iB; decide
 simp [bV,fnF,dD,ak,ar,aQ,e2,ac,eC,bW,cy,aZ,eW,fS,c1,c2,c3,c4,c5,c6,c7,c8,g1,g2,msk]
theorem ni {ns:List Int} {k l m:Int} (h0:0≤k) (h1:k≤1000000000) (h2:0≤l) (h3:0 < m) (h4:m < 1073741824) :
  ∃ r k' l',ap [aC ns k l,.int m]=some (.int r,[some (aC ns k' l'),none])∧0≤r∧r < m∧k≤k'∧k'≤k+1∧0≤l':=by
 have cd:∀ z,iB z m:=fun z=>⟨h3,h4⟩
 have cp:ga 10 18:=by unfold ga; decide
 have md:∀ z,bW (.int z) (.int m)=some (.int (z % m)):=fun z=>if_pos h3
 have dv:∀ z,eW (.int z) (.int m)=some (.int (z / m)):=fun z=>if_pos (cd z)
 have last:∀ (k' b:Int) (x y z:Option D),(ak (ar 5 (e2 bW (bC 0 (eC (.str "left"))) (ac 1)))
   (ak (cP 0 (eC (.str "left")) (e2 eW (bC 0 (eC (.str "left"))) (ac 1)))
   (aQ (ac 5)))) [some (aC ns k' b),some (.int m),x,y,z,none]=some (.rt (.int (b % m)) [some (aC ns k' (b / m)),some (.int m),x,y,z,some (.int (b % m))]):=by
  intro k' b x y z
  refine aN (en1:=[some (aC ns k' b),some (.int m),x,y,z,some (.int (b % m))]) (cV (bA (t1:=.int b) (t2:=.int m) rfl rfl (md b)) rfl) (aN (en1:=[some (aC ns k' (b / m)),some (.int m),x,y,z,some (.int (b % m))]) ?_ rfl)
  unfold cP
  rw [bA (t1:=.int b) (t2:=.int m) (f1:=bC 0 (eC (.str "left"))) (f2:=ac 1) (g:=eW) (en:=[some (aC ns k' b),some (.int m),x,y,z,some (.int (b % m))]) (en1:=[some (aC ns k' b),some (.int m),x,y,z,some (.int (b % m))]) (en2:=[some (aC ns k' b),some (.int m),x,y,z,some (.int (b % m))]) rfl rfl (dv b)]
  rfl
 by_cases hl:l=0
 ·subst hl
  by_cases hn:ns.length=0
  ·have hns:ns=[]:=List.length_eq_zero_iff.mp hn
   subst hns
   obtain ⟨r,e,hr⟩:=mi (c:=0) h0 h1
   refine ⟨r % m,k+1,0,?_,Int.emod_nonneg _ (by omega),Int.emod_lt_of_pos _ h3,by omega,by omega,by omega⟩
   refine dz (en:=[some (aC [] (k+1) 0),some (.int m),some (.int k),some (.list []),some (.int 0),none]) (aN rfl (aN rfl (iU (fg (b:=true) rfl rfl (aN (en1:=[some (aC [] (k+1) 0),some (.int m),some (.int k),some (.list []),none,none]) rfl (aN rfl (aN rfl (iU (fg (b:=true) (mN (b:=decide ((0:Int)≤k)) rfl (decide_eq_true h0)) rfl (jj (bA (en1:=[some (aC [] (k+1) 0),some (.int m),some (.int k),some (.list []),some (.int 0),none]) (t2:=.int m) (jk (as:=[.inl (.int 0),.inl (.int k)]) (en1:=[some (aC [] (k+1) 0),some (.int m),some (.int k),some (.list []),some (.int 0),none]) rfl rfl e rfl) rfl (md r))))))))))))
  ·obtain ⟨j,ej⟩:∃ j:Nat,ixN ns.length (k % ns.length)=some j∧j < ns.length:=by
    have q1:0≤k % (ns.length:Int):=Int.emod_nonneg _ (by omega)
    have q2:k % (ns.length:Int) < ns.length:=Int.emod_lt_of_pos _ (by omega)
    exact ⟨(k % (ns.length:Int)).toNat,by unfold ixN; rw [if_pos q1,if_pos q2],by omega⟩
   obtain ⟨c,ec⟩:∃ c,ns[j]?=some c:=⟨_,List.getElem?_eq_getElem ej.2⟩
   have at1:ixA (.list (ns.map .int)) (.int (k % ns.length))=some (.int c):=by
    show atI _ _=_
    unfold atI
    rw [List.length_map,ej.1]
    show (ns.map PyData.int)[j]?=_
    rw [List.getElem?_map,ec]
    rfl
   have hn1:(0:Int) < ns.length:=by omega
   have len:bd [.list (ns.map .int)]=some (.int ns.length):=by show some (PyData.int (ns.map PyData.int).length)=_; rw [List.length_map]
   have ml:bW (.int k) (.int ns.length)=some (.int (k % ns.length)):=if_pos hn1
   obtain ⟨r,e,hr⟩:=mi (c:=c) h0 h1
   obtain ⟨b,ab,b0⟩:∃ b,ir [.int c]=some (.int b)∧0≤b:=⟨if c < 0 then -c else c,rfl,by split <;> omega⟩
   have pw:gp (.int 10) (.int 18)=some (.int 1000000000000000000):=by
    show (if ga 10 18 then some (PyData.int (10 ^ Int.toNat 18)) else none)=_
    rw [if_pos cp]; rfl
   have ln:∀ (x y:Option D) (p:D),(eN bd (af (ac 3) ah)) [some p,some (.int m),x,some (.list (ns.map .int)),y,none]=some (.int ns.length,[some p,some (.int m),x,some (.list (ns.map .int)),y,none]):=fun x y p=>mO rfl rfl len
   have pre:∀ (x y:Option D) {m2:MS} {fl:Fl},m2 [some (aC ns (k+1) 0),some (.int m),some (.int k),some (.list (ns.map .int)),some (.int c),none]=some fl→(ak (cP 0 (eC (.str "at")) (e2 aZ (ac 2) (eC (.int 1))))
 (ak (ar 4 (eC (.int 0)))
 (ak (sIf (tV (e2 gtI (eN bd (af (ac 3) ah)) (eC (.int 0)))) (ar 4 (e2 ixA (ac 3) (e2 bW (ac 2) (eN bd (af (ac 3) ah))))) bD) m2))) [some (aC ns k 0),some (.int m),some (.int k),some (.list (ns.map .int)),none,none]=some fl:=by
    intro x y m2 fl h
    refine aN (en1:=[some (aC ns (k+1) 0),some (.int m),some (.int k),some (.list (ns.map .int)),none,none]) rfl (aN (en1:=[some (aC ns (k+1) 0),some (.int m),some (.int k),some (.list (ns.map .int)),some (.int 0),none]) rfl (aN ?_ h))
    exact fg (ji (bA (ln _ _ _) rfl rfl)) (decide_eq_true hn1) (cV (bA rfl (bA rfl (ln _ _ _) ml) at1) rfl)
   by_cases hq:(ns.length:Int)≤k∨b < 1000000000000000000
   ·refine ⟨r % m,k+1,0,?_,Int.emod_nonneg _ (by omega),Int.emod_lt_of_pos _ h3,by omega,by omega,by omega⟩
    refine dz (en:=[some (aC ns (k+1) 0),some (.int m),some (.int k),some (.list (ns.map .int)),some (.int c),none]) (aN rfl (aN rfl (iU (fg (b:=true) rfl rfl (pre none none (iU (fg (en1:=[some (aC ns (k+1) 0),some (.int m),some (.int k),some (.list (ns.map .int)),some (.int c),none]) (b:=true) ?_ rfl (jj (bA (en1:=[some (aC ns (k+1) 0),some (.int m),some (.int k),some (.list (ns.map .int)),some (.int c),none]) (t2:=.int m) (jk (as:=[.inl (.int c),.inl (.int k)]) (en1:=[some (aC ns (k+1) 0),some (.int m),some (.int k),some (.list (ns.map .int)),some (.int c),none]) rfl rfl e rfl) rfl (md r))))))))))
    by_cases hq2:(ns.length:Int)≤k
    ·exact mN (ji (bA rfl (ln _ _ _) rfl)) (decide_eq_true hq2)
    ·have hq3:=hq.resolve_left hq2
     exact j9 (ji (bA rfl (ln _ _ _) rfl)) (decide_eq_false hq2) (ji (bA (mO rfl rfl ab) (bA rfl rfl pw) (congrArg (fun q=>some (PyData.bool q)) (decide_eq_true hq3))))
   ·have hq1:¬ (ns.length:Int)≤k:=fun z=>hq (.inl z)
    have hq2:¬ b < 1000000000000000000:=fun z=>hq (.inr z)
    refine ⟨b % m,k+1,b / m,?_,Int.emod_nonneg _ (by omega),Int.emod_lt_of_pos _ h3,by omega,by omega,Int.ediv_nonneg b0 (by omega)⟩
    refine dz (aN rfl (aN rfl (aN (en1:=[some (aC ns (k+1) b),some (.int m),some (.int k),some (.list (ns.map .int)),some (.int c),none]) (fg (b:=true) rfl rfl (pre none none (aN (kb (j9 (ji (bA rfl (ln _ _ _) rfl)) (decide_eq_false hq1) (ji (bA (mO rfl rfl ab) (bA rfl rfl pw) rfl))) (decide_eq_false hq2) rfl) ?_))) (last _ _ _ _ _))))
    unfold cP
    rw [mO (fa:=af (ac 4) ah) (en:=[some (aC ns (k+1) 0),some (.int m),some (.int k),some (.list (ns.map .int)),some (.int c),none]) (en1:=[some (aC ns (k+1) 0),some (.int m),some (.int k),some (.list (ns.map .int)),some (.int c),none]) rfl rfl ab]
    rfl
 ·refine ⟨l % m,k,l / m,?_,Int.emod_nonneg _ (by omega),Int.emod_lt_of_pos _ h3,Int.le_refl _,by omega,Int.ediv_nonneg h2 (by omega)⟩
  exact dz (aN rfl (aN rfl (aN (kb (b:=l == 0) rfl (beq_eq_false_iff_ne.mpr hl) rfl) (last k l _ _ _))))
theorem eK {ns:List Int} {k l m:Int} {i:Nat} {en:En} {fa:MA} (hp:en[i]?=some (some (aC ns k l))) (hf:fa en=some ([.inr i,.inl (.int m)],en)) (h0:0≤k) (h1:k≤1000000000) (h2:0≤l) (h3:0 < m) (h4:m < 1073741824) :
  ∃ r k' l',ax ap fa en=some (.int r,en.set i (some (aC ns k' l')))∧0≤r∧r < m∧k≤k'∧k'≤k+1∧0≤l':=by
 obtain ⟨r,k',l',e,q⟩:=ni (ns:=ns) h0 h1 h2 h3 h4
 refine ⟨r,k',l',jk hf (ts:=[aC ns k l,.int m]) ?_ e rfl,q⟩
 unfold c9
 rw [hp]
 rfl
end Pen2
end L2
namespace L2
open PySem PySem.Spec PyProof.Rows
theorem Ds (a b:Int):eqD (.int a) (.int b)=some (.bool (a == b)):=by
 show grd _ _=_
 unfold grd
 rw [if_pos ⟨rfl,rfl,Nat.zero_le _⟩]
 simp only [peq]
theorem Cd (a b:Int):neD (.int a) (.int b)=some (.bool (!(a == b))):=by
 show grd _ _=_
 unfold grd
 rw [if_pos ⟨rfl,rfl,Nat.zero_le _⟩]
 simp only [peq]
end L2
namespace L2
open PySem PySem.Spec PyProof.Rows
structure Df (K:PySem.W.Frag) (x:Str) (st:Stmt) (f:Addr):Prop where
 a:PySem.W.nsIn K mainGlobals x=some (some (.ref f))
 l:∃ oc od kV dc pm an cd ct sl,K.lookup f=some ⟨oc,od,.func (PySem.W.fnOf x x (dQ st) (cL st) (aq st) .none kV dc pm an cd ct),sl⟩∧PySem.W.codeIn K cd x=true
 k:PySem.W.keepIn K (.ref f)=true
section
variable {P:Program} {w:World} {K:PySem.W.Frag} {mg:Str→Option Value} {base h:Heap} {k dr:Nat} {x:Str} {ps:List Str} {dps:List Nat} {f:Addr} {st:Stmt} {sp:Sp}
theorem Df.mk' {oc:Value} {od an:Option Addr} {sl:Array (Option Value)} {kV dc pm cd ct:Value} (a:PySem.W.nsIn K mainGlobals x=some (some (.ref f))) (l:K.lookup f=some ⟨oc,od,.func (PySem.W.fnOf x x (dQ st) (cL st) (aq st) .none kV dc pm an cd ct),sl⟩) (c:PySem.W.codeIn K cd x=true) (k:PySem.W.keepIn K (.ref f)=true):Df K x st f :=
 ⟨a,⟨oc,od,kV,dc,pm,an,cd,ct,sl,l,c⟩,k⟩
theorem Df.kn (d:Df K x st f) (X:K.In h) (G:h.Ns mainGlobals mg) (b:∀ (kV doc pm:Value) (an:Option Addr) (cdv ct:Value) (us:List Value),us.length=ps.length→bindArgs (PySem.W.fnOf x x (dQ st) (cL st) (aq st) .none kV doc pm an cdv ct) ⟨us,[]⟩=pure (ps.zip us))
  (ok:∀ fd,Fun K x x st f fd→FnOk P w K mg base CX0 k f fd ps sp):Kn P w K mg base k x ps sp:=by
 obtain ⟨_,_,_,_,_,_,_,_,_,l,c⟩:=d.l
 have F:=pG (st:=st) l c d.k
 exact ⟨_,_,ok _ F,PySem.W.mg_of X G d.a,d.k,F.binds b⟩
end
end L2
namespace L2
namespace Pen3
open PySem L2
theorem sl1000:1000≤sizeLine:=by rw [sizeLine_eq]; decide
end Pen3
end L2
namespace Mch
open PySem L2 Pen2
def b8:MS:=(aQ (eLC true (bb (e2 ixA (ac 0) (eC (.int 0)))) (gN 0) cY (eIf (tV (ac 0)) (eC (.int 1)) (eC (.int 0))) [none]))
def bF:List D→Option (D × En):=fnF 0 [0] b8
def bx:MS:=(aQ (eLC true (bb (e2 ixA (ac 0) (eC (.int 1)))) (gN 0) cY (eN iJ (af (eLC true (bb (ac 0)) (gN 0) (tV (e2 dX (ac 0) (eC .none))) (e2 ixA (ac 1) (ac 0)) [none,some 1]) ah)) [none,some 1]))
def bg:List D→Option (D × En):=fnF 0 [0,0] bx
def e8:MS:=(aQ (e2 ixA (aG (af (eC (.int 2)) (af (eC (.int 1)) (af (eC (.int 3)) (af (eC (.int 2)) (af (eC (.int 4)) (af (eC (.int 3)) (af (eC (.int 2)) (af (e2 aZ (eC (.int 5)) (ax ap (aH 0 (af (eC (.int 8)) ah)))) ah))))))))) (ax ap (aH 0 (af (eC (.int 8)) ah)))))
def cM:List D→Option (D × En):=fnF 0 [1] e8
def du:MS:=(ak (ar 4 (ax ap (aH 0 (af (e2 aZ (ac 2) (eC (.int 1))) ah))))
 (ak (sIf (bOr (tV (e2 eqD (ac 4) (ac 2))) (cZ (tV (e2 eqD (ac 3) (eC (.int 1)))) (tV (e2 leI (ac 4) (ac 1))))) (aQ (eC .none)) bD)
 (aQ (ac 4))))
def bw:List D→Option (D × En):=fnF 1 [1,0,0,0] du
def cG:MS:=(ak (ar 3 (e2 aZ (eC (.int 1)) (ax ap (aH 0 (af (ac 2) ah)))))
 (ak (ar 4 (ax ap (aH 0 (af (eC (.int 4)) ah))))
 (ak (ar 5 (e2 aZ (eC (.int 1)) (ax ap (aH 0 (af (ac 3) ah)))))
 (ak (ar 6 (aG ah))
 (ak (ar 7 (aG ah))
 (ak (cR (cf (af (ac 3) ah)) (gN 8) (ak (bQ (bP 6 (e2 eqD (ax ap (aH 0 (af (eC (.int 3)) ah))) (eC (.int 0)))))
 (ak (ar 9 (eLC false (cf (af (ac 1) ah)) (gN 0) cY (ax bw (aH 1 (af (ac 4) (af (ac 2) (af (ac 3) ah))))) [none,some 0,some 3,some 4,some 8]))
 (ak (sIf (cZ (tV (e2 eqD (ac 4) (eC (.int 2)))) (tV (e2 ltI (ac 8) (ac 5)))) (ak (gg 6 (ac 8) (eC (.bool false)))
 (ar 9 (eLC true (bb (ac 9)) (gN 0) cY (e2 ixA (aG (af (ac 0) (af (eC .none) ah))) (eN gw (af (eOr (e2 isN (ac 0) (eC .none)) (e2 geI (ac 0) (ac 1))) ah))) [none,some 5]))) bD)
 (bQ (bP 7 (ac 9)))))))
 (aQ (cN (af (ac 6) (af (ac 7) ah))))))))))
def ce:List D→Option (D × En):=fnF 7 [1,0,0] cG
def goD:Option Nat→D
 | none=>.none
 | some j=>.int j
def aI (r:List (Option Nat)):D:=.list (r.map goD)
def aU (es:List Bool) (gs:List (List (Option Nat))):D:=.tuple [.list (es.map .bool),.list (gs.map aI)]
def cQ (S W:Nat) (r:List (Option Nat)):Prop:=r.length=W∧∀ o∈r,∀ j,o=some j→j < S
theorem qv {ns:List Int} {k l:Int} (h0:0≤k) (h1:k≤1000) (h2:0≤l):∃ (s:Nat) (k' l':Int),cM [aC ns k l]=some (.int s,[some (aC ns k' l')])∧1≤s∧s≤12∧k≤k'∧k'≤k+2∧0≤l':=by
 obtain ⟨r1,k1,l1,e1,a1,a2,a3,a4,a5⟩:=eK (ns:=ns) (k:=k) (l:=l) (m:=8) (i:=0) (en:=[some (aC ns k l)]) (fa:=aH 0 (af (eC (.int 8)) ah)) rfl rfl h0 (by omega) h2 (by decide) (by decide)
 obtain ⟨r2,k2,l2,e2',b1,b2,b3,b4,b5⟩:=eK (ns:=ns) (k:=k1) (l:=l1) (m:=8) (i:=0) (en:=[some (aC ns k1 l1)]) (fa:=aH 0 (af (eC (.int 8)) ah)) rfl rfl (by omega) (by omega) a5 (by decide) (by decide)
 have hx:∃ s:Nat,ixA (.list [.int 2,.int 1,.int 3,.int 2,.int 4,.int 3,.int 2,.int (5+r1)]) (.int r2)=some (.int s)∧1≤s∧s≤12:=by
  have:r2=0∨r2=1∨r2=2∨r2=3∨r2=4∨r2=5∨r2=6∨r2=7:=by omega
  rcases this with rfl | rfl | rfl | rfl | rfl | rfl | rfl | rfl
  ·exact ⟨2,rfl,by decide,by decide⟩
  ·exact ⟨1,rfl,by decide,by decide⟩
  ·exact ⟨3,rfl,by decide,by decide⟩
  ·exact ⟨2,rfl,by decide,by decide⟩
  ·exact ⟨4,rfl,by decide,by decide⟩
  ·exact ⟨3,rfl,by decide,by decide⟩
  ·exact ⟨2,rfl,by decide,by decide⟩
  ·refine ⟨(5+r1).toNat,?_,by omega,by omega⟩
   rw [show (((5+r1).toNat:Nat):Int)=5+r1 by omega]
   rfl
 obtain ⟨s,ex,s1,s2⟩:=hx
 refine ⟨s,k2,l2,?_,s1,s2,by omega,by omega,b5⟩
 refine dz (en:=[some (aC ns k2 l2)]) (jj (bA (en1:=[some (aC ns k1 l1)]) (mP (fF rfl (fF rfl (fF rfl (fF rfl (fF rfl (fF rfl (fF rfl (fF (bA rfl e1 rfl) rfl)))))))) rfl ?_) e2' ex))
 exact Nat.le_trans (by show 8≤100; decide) a8
theorem yu {ns:List Int} {k l way:Int} {i S:Nat} (hS:S≤60) (h0:0≤k) (h1:k≤10000) (h2:0≤l):∃ (o:Option Nat) (k' l':Int),bw [aC ns k l,.int i,.int S,.int way]=some (goD o,[some (aC ns k' l'),none,none,none])∧(∀ j,o=some j→j < S)∧k≤k'∧k'≤k+1∧0≤l':=by
 obtain ⟨r1,k1,l1,e1,a1,a2,a3,a4,a5⟩:=eK (ns:=ns) (k:=k) (l:=l) (m:=S+1) (i:=0) (en:=[some (aC ns k l),some (.int i),some (.int S),some (.int way),none]) (fa:=aH 0 (af (e2 aZ (ac 2) (eC (.int 1))) ah)) rfl rfl h0 (by omega) h2 (by omega) (by omega)
 have c1:(tV (e2 eqD (ac 4) (ac 2))) [some (aC ns k1 l1),some (.int i),some (.int S),some (.int way),some (.int r1)]=some (r1 == (S:Int),[some (aC ns k1 l1),some (.int i),some (.int S),some (.int way),some (.int r1)]):=rfl
 have c2:(tV (e2 eqD (ac 3) (eC (.int 1)))) [some (aC ns k1 l1),some (.int i),some (.int S),some (.int way),some (.int r1)]=some (way == 1,[some (aC ns k1 l1),some (.int i),some (.int S),some (.int way),some (.int r1)]):=rfl
 have c3:(tV (e2 leI (ac 4) (ac 1))) [some (aC ns k1 l1),some (.int i),some (.int S),some (.int way),some (.int r1)]=some (decide (r1≤(i:Int)),[some (aC ns k1 l1),some (.int i),some (.int S),some (.int way),some (.int r1)]):=rfl
 obtain ⟨b,cb,hb⟩:∃ b,(bOr (tV (e2 eqD (ac 4) (ac 2))) (cZ (tV (e2 eqD (ac 3) (eC (.int 1)))) (tV (e2 leI (ac 4) (ac 1))))) [some (aC ns k1 l1),some (.int i),some (.int S),some (.int way),some (.int r1)]=some (b,[some (aC ns k1 l1),some (.int i),some (.int S),some (.int way),some (.int r1)])∧(b=false→r1≠S):=by
  cases q1:(r1 == (S:Int)) with
  | true=>exact ⟨true,mN c1 q1,fun z=>by cases z⟩
  | false =>
   have n1:r1≠S:=by simpa using q1
   cases q2:(way == 1) with
   | true=>exact ⟨_,j9 c1 q1 (nK c2 q2 c3),fun _=>n1⟩
   | false=>exact ⟨_,j9 c1 q1 (nL c2 q2),fun _=>n1⟩
 cases b with
 | true=>exact ⟨none,k1,l1,dz (b:=du) (t:=.none) (en:=[some (aC ns k1 l1),some (.int i),some (.int S),some (.int way),some (.int r1)]) (aN (en1:=[some (aC ns k1 l1),some (.int i),some (.int S),some (.int way),some (.int r1)]) (cV e1 rfl) (iU (fg cb rfl rfl))),fun _ (z:none=some _)=>(by cases z),a3,a4,a5⟩
 | false =>
  have:=hb rfl
  refine ⟨some r1.toNat,k1,l1,?_,fun j hj=>by cases hj; omega,a3,a4,a5⟩
  have e:goD (some r1.toNat)=.int r1:=by show PyData.int ((r1.toNat:Nat):Int)=_; rw [Int.toNat_of_nonneg a1]
  rw [e]
  exact dz (b:=du) (en:=[some (aC ns k1 l1),some (.int i),some (.int S),some (.int way),some (.int r1)]) (aN (en1:=[some (aC ns k1 l1),some (.int i),some (.int S),some (.int way),some (.int r1)]) (cV e1 rfl) (aN (kb cb rfl rfl) rfl))
theorem BO (n:Nat) (hn:n < 1000000):-(2 ^ 62)≤(n:Int)∧(n:Int) < 2 ^ 62:=by
 have:(n:Int) < 1000000:=by omega
 constructor
 ·exact Int.le_trans (by decide +kernel) (Int.natCast_nonneg n)
 ·exact Int.lt_of_lt_of_le this (by decide +kernel)
theorem Do {j:Int} (p1:-(2 ^ 62)≤j∧j < 2 ^ 62) {fa:MA} {en en1:En} (h:fa en=some ([.inl (.int j)],en1)):cf fa en=some ((List.range j.toNat).map fun k=>.int (0+(k:Nat)),en1):=by
 unfold cf
 rw [h]
 simp only [Option.bind_some]
 exact if_pos p1
theorem nJ {n:Nat} {fa:MA} {en en1:En} (h:fa en=some ([.inl (.int n)],en1)) (hn:n < 1000000):cf fa en=some ((List.range n).map fun k=>.int (0+(k:Nat)),en1):=by
 have e:=Do (BO n hn) h
 rw [Int.toNat_natCast] at e
 exact e
def mEn (mo:Int) (ns:List Int) (k l:Int) (W S:Nat) (way fence:Int) (es:List Bool) (gs:List (List (Option Nat))) (x y:Option D):En :=
 [some (aC ns k l),some (.int W),some (.int mo),some (.int S),some (.int way),some (.int fence),some (.list (es.map .bool)),some (.list (gs.map aI)),x,y]
def jN (fence:Int):Option Nat→Option Nat
 | some j=>if fence≤(j:Int) then none else some j
 | none=>none
def rA (fence:Int):D→D
 | .int j=>if fence≤j then .none else .int j
 | _=>.none
theorem Dv {fence:Int} (o:Option Nat):rA fence (goD o)=goD (jN fence o):=by
 cases o with
 | none=>rfl
 | some j =>
  show (if fence≤(j:Int) then PyData.none else .int j)=goD (if fence≤(j:Int) then none else some j)
  split <;> rfl
theorem BL {mo:Int} {ns:List Int} {k l way fence:Int} {W S i:Nat} {es:List Bool} {gs:List (List (Option Nat))} {y:Option D} (hW:W≤12) (hS:S≤60) (h0:0≤k) (h1:k≤9000) (h2:0≤l) :
  ∃ (r:List (Option Nat)) (k' l':Int),eLC false (cf (af (ac 1) ah)) (gN 0) cY (ax bw (aH 1 (af (ac 4) (af (ac 2) (af (ac 3) ah))))) [none,some 0,some 3,some 4,some 8] (mEn mo ns k l W S way fence es gs (some (.int i)) y)
   = some (aI r,mEn mo ns k' l' W S way fence es gs (some (.int i)) y)∧cQ S W r∧k≤k'∧k'≤k+12∧0≤l':=by
 have hl:((List.range W).map fun k=>PyData.int (0+(k:Nat))).length=W:=by rw [List.length_map,List.length_range]
 obtain ⟨us,ex,e1,⟨o,k',l',rfl,q1,q2,q3⟩,a⟩:=nA (N:=W) (g:=gN 0) (c:=cY) (f:=ax bw (aH 1 (af (ac 4) (af (ac 2) (af (ac 3) ah)))))
  (fun n en=>∃ o k' l',en=[o,some (aC ns k' l'),some (.int S),some (.int way),some (.int i)]∧k≤k'∧k'≤k+n∧0≤l') (fun _ q=>∃ o,q=goD o∧∀ j,o=some j→j < S)
  (fun n t en hn ⟨o,k',l',he,q1,q2,q3⟩=>by
   subst he
   obtain ⟨o',k2,l2,e,p1,p2,p3,p4⟩:=yu (ns:=ns) (k:=k') (l:=l') (way:=way) (i:=i) (S:=S) hS (by omega) (by omega) q3
   exact ⟨[some t,some (aC ns k' l'),some (.int S),some (.int way),some (.int i)],[some t,some (aC ns k' l'),some (.int S),some (.int way),some (.int i)],goD o',[some t,some (aC ns k2 l2),some (.int S),some (.int way),some (.int i)],rfl,rfl,jk (as:=[.inr 1,.inl (.int i),.inl (.int S),.inl (.int way)]) rfl rfl e rfl,⟨some t,k2,l2,rfl,by omega,by omega,p4⟩,⟨o',rfl,p1⟩⟩)
  ((List.range W).map fun k=>.int (0+(k:Nat))) [] 0 (cq [none,some 0,some 3,some 4,some 8] (mEn mo ns k l W S way fence es gs (some (.int i)) y)) ⟨none,k,l,rfl,Int.le_refl _,by omega,h2⟩ (by rw [hl]; omega) (by rw [hl]; show 0+W≤_; exact Nat.le_trans (by omega) a8)
 obtain ⟨os,rfl,o1,o2⟩:=a.ex
 rw [hl] at o1 q2
 refine ⟨os,k',l',ka (nJ (n:=W) rfl (by omega)) e1 rfl,⟨o1,o2⟩,q1,by omega,q3⟩
theorem yr {n:Nat} {j:Int} (h0:0≤j) (h1:j < n):ixN n j=some j.toNat:=by
 unfold ixN
 rw [if_pos h0,if_pos h1]
theorem fK {n i:Nat} (h:i < n):ixN n (i:Int)=some i:=by
 have e:=yr (n:=n) (j:=(i:Int)) (Int.natCast_nonneg i) (Int.ofNat_lt.mpr h)
 rw [Int.toNat_natCast] at e
 exact e
theorem zv {mo:Int} {ns:List Int} {k l way fence:Int} {W S i:Nat} {es:List Bool} {gs:List (List (Option Nat))} {r:List (Option Nat)} (hr:cQ S W r) (hW:W≤12) :
  eLC true (bb (ac 9)) (gN 0) cY (e2 ixA (aG (af (ac 0) (af (eC .none) ah))) (eN gw (af (eOr (e2 isN (ac 0) (eC .none)) (e2 geI (ac 0) (ac 1))) ah))) [none,some 5] (mEn mo ns k l W S way fence es gs (some (.int i)) (some (aI r)))
   = some (aI (r.map (jN fence)),mEn mo ns k l W S way fence es gs (some (.int i)) (some (aI r))):=by
 obtain ⟨o',e⟩:=je (F:=rA fence) (rest:=[some (.int fence)]) (f:=e2 ixA (aG (af (ac 0) (af (eC .none) ah))) (eN gw (af (eOr (e2 isN (ac 0) (eC .none)) (e2 geI (ac 0) (ac 1))) ah))) (r.map goD) [] none (fun t ht=>by
  obtain ⟨o,ho,rfl⟩:=List.mem_map.mp ht
  have l2:aG (af (ac 0) (af (eC .none) ah)) [some (goD o),some (.int fence)]=some (.list [goD o,.none],[some (goD o),some (.int fence)]):=mP rfl rfl (Nat.le_trans (by show 2≤100; decide) a8)
  cases o with
  | none=>exact bA l2 (t2:=.int 1) rfl rfl
  | some j =>
   by_cases hf:fence≤(j:Int)
   ·refine bA l2 (t2:=.int 1) ?_ (show _=some (if fence≤(j:Int) then PyData.none else .int j) by rw [if_pos hf]; rfl)
    show some (PyData.int (if decide (fence≤(j:Int)) then 1 else 0),_)=_
    rw [decide_eq_true hf]
    rfl
   ·refine bA l2 (t2:=.int 0) ?_ (show _=some (if fence≤(j:Int) then PyData.none else .int j) by rw [if_neg hf]; rfl)
    show some (PyData.int (if decide (fence≤(j:Int)) then 1 else 0),_)=_
    rw [decide_eq_false hf]
    rfl) (by rw [List.length_map,hr.1]; exact Nat.le_trans (by show 0+W≤100; omega) a8)
 have em:(r.map goD).map (rA fence)=(r.map (jN fence)).map goD:=by
  rw [List.map_map,List.map_map]
  exact List.map_congr_left fun o _=>Dv o
 rw [em] at e
 exact ka (en1:=mEn mo ns k l W S way fence es gs (some (.int i)) (some (aI r))) rfl e rfl
theorem Du {S W:Nat} {fence:Int} {r:List (Option Nat)} (hr:cQ S W r):cQ S W (r.map (jN fence)):=by
 refine ⟨by rw [List.length_map,hr.1],fun o ho j hj=>?_⟩
 obtain ⟨o',h1,h2⟩:=List.mem_map.mp ho
 cases o' with
 | none=>rw [hj] at h2; cases h2
 | some j' =>
  rw [hj] at h2
  have h3:(if fence≤(j':Int) then none else some j')=some j:=h2
  split at h3
  ·cases h3
  ·cases h3
   exact hr.2 _ h1 _ rfl
def xq:MS:=(ak (bQ (bP 6 (e2 eqD (ax ap (aH 0 (af (eC (.int 3)) ah))) (eC (.int 0)))))
 (ak (ar 9 (eLC false (cf (af (ac 1) ah)) (gN 0) cY (ax bw (aH 1 (af (ac 4) (af (ac 2) (af (ac 3) ah))))) [none,some 0,some 3,some 4,some 8]))
 (ak (sIf (cZ (tV (e2 eqD (ac 4) (eC (.int 2)))) (tV (e2 ltI (ac 8) (ac 5)))) (ak (gg 6 (ac 8) (eC (.bool false)))
 (ar 9 (eLC true (bb (ac 9)) (gN 0) cY (e2 ixA (aG (af (ac 0) (af (eC .none) ah))) (eN gw (af (eOr (e2 isN (ac 0) (eC .none)) (e2 geI (ac 0) (ac 1))) ah))) [none,some 5]))) bD)
 (bQ (bP 7 (ac 9))))))
theorem zz {mo:Int} {ns:List Int} {k l way fence:Int} {W S i:Nat} {es:List Bool} {gs:List (List (Option Nat))} {y:Option D} (hW:W≤12) (hS:S≤60) (hi:i < 60) (h0:0≤k) (h1:k≤8000) (h2:0≤l) (he:es.length=i) (hg:gs.length=i) :
  ∃ (b:Bool) (r:List (Option Nat)) (k' l':Int) (y':Option D),xq (mEn mo ns k l W S way fence es gs (some (.int i)) y)=some (.nx (mEn mo ns k' l' W S way fence (es++[b]) (gs++[r]) (some (.int i)) y'))∧cQ S W r∧k≤k'∧k'≤k+13∧0≤l':=by
 obtain ⟨r1,k1,l1,e1,a1,a2,a3,a4,a5⟩:=eK (ns:=ns) (k:=k) (l:=l) (m:=3) (i:=0) (en:=mEn mo ns k l W S way fence es gs (some (.int i)) y) (fa:=aH 0 (af (eC (.int 3)) ah)) rfl rfl h0 (by omega) h2 (by decide) (by decide)
 have lm:(es.map PyData.bool).length < sizeLine:=by rw [List.length_map,he]; exact Nat.lt_of_lt_of_le (by omega) a8
 have s1:bQ (bP 6 (e2 eqD (ax ap (aH 0 (af (eC (.int 3)) ah))) (eC (.int 0)))) (mEn mo ns k l W S way fence es gs (some (.int i)) y)=some (.nx (mEn mo ns k1 l1 W S way fence (es++[r1 == 0]) gs (some (.int i)) y)):=by
  refine pW (pX (us:=es.map .bool) (en1:=mEn mo ns k1 l1 W S way fence es gs (some (.int i)) y) rfl (bA (t2:=.int 0) e1 rfl rfl) rfl lm ?_)
  unfold mEn
  rw [List.map_append]
  rfl
 obtain ⟨r,k2,l2,e2',hr,b3,b4,b5⟩:=BL (mo:=mo) (ns:=ns) (k:=k1) (l:=l1) (way:=way) (fence:=fence) (W:=W) (S:=S) (i:=i) (es:=es++[r1 == 0]) (gs:=gs) (y:=y) hW hS (by omega) (by omega) a5
 have s2:ar 9 (eLC false (cf (af (ac 1) ah)) (gN 0) cY (ax bw (aH 1 (af (ac 4) (af (ac 2) (af (ac 3) ah))))) [none,some 0,some 3,some 4,some 8]) (mEn mo ns k1 l1 W S way fence (es++[r1 == 0]) gs (some (.int i)) y)=some (.nx (mEn mo ns k2 l2 W S way fence (es++[r1 == 0]) gs (some (.int i)) (some (aI r)))):=cV e2' rfl
 have s4:∀ (es':List Bool) (r':List (Option Nat)),bQ (bP 7 (ac 9)) (mEn mo ns k2 l2 W S way fence es' gs (some (.int i)) (some (aI r')))=some (.nx (mEn mo ns k2 l2 W S way fence es' (gs++[r']) (some (.int i)) (some (aI r')))):=by
  intro es' r'
  refine pW (pX (us:=gs.map aI) (en1:=mEn mo ns k2 l2 W S way fence es' gs (some (.int i)) (some (aI r'))) rfl rfl rfl (by rw [List.length_map,hg]; exact Nat.lt_of_lt_of_le (by omega) a8) ?_)
  unfold mEn
  rw [List.map_append]
  rfl
 have c1:tV (e2 eqD (ac 4) (eC (.int 2))) (mEn mo ns k2 l2 W S way fence (es++[r1 == 0]) gs (some (.int i)) (some (aI r)))=some (way == 2,mEn mo ns k2 l2 W S way fence (es++[r1 == 0]) gs (some (.int i)) (some (aI r))):=rfl
 have c2:tV (e2 ltI (ac 8) (ac 5)) (mEn mo ns k2 l2 W S way fence (es++[r1 == 0]) gs (some (.int i)) (some (aI r)))=some (decide ((i:Int) < fence),mEn mo ns k2 l2 W S way fence (es++[r1 == 0]) gs (some (.int i)) (some (aI r))):=rfl
 obtain ⟨b,cb⟩:∃ b,cZ (tV (e2 eqD (ac 4) (eC (.int 2)))) (tV (e2 ltI (ac 8) (ac 5))) (mEn mo ns k2 l2 W S way fence (es++[r1 == 0]) gs (some (.int i)) (some (aI r)))=some (b,mEn mo ns k2 l2 W S way fence (es++[r1 == 0]) gs (some (.int i)) (some (aI r))):=by
  cases q1:(way == 2) with
  | true=>exact ⟨_,nK c1 q1 c2⟩
  | false=>exact ⟨_,nL c1 q1⟩
 cases b with
 | false=>exact ⟨r1 == 0,r,k2,l2,_,aN s1 (aN s2 (aN (kb cb rfl rfl) (s4 _ _))),hr,by omega,by omega,b5⟩
 | true =>
  refine ⟨false,r.map (jN fence),k2,l2,some (aI (r.map (jN fence))),aN s1 (aN s2 (aN (en1:=mEn mo ns k2 l2 W S way fence (es++[false]) gs (some (.int i)) (some (aI (r.map (jN fence))))) (fg cb rfl (aN (en1:=mEn mo ns k2 l2 W S way fence (es++[false]) gs (some (.int i)) (some (aI r))) ?_ (cV (zv hr hW) rfl))) (s4 _ _))),Du hr,by omega,by omega,b5⟩
  have ix:ixN ((es++[r1 == 0]).map PyData.bool).length (i:Int)=some i:=fK (by rw [List.length_map,List.length_append,he]; exact Nat.lt_succ_self _)
  have st:((es++[r1 == 0]).map PyData.bool).set i (.bool false)=(es++[false]).map PyData.bool:=by
   have e:(es++[r1 == 0]).set i false=es++[false]:=by
    rw [List.set_append_right _ _ (by omega),he,Nat.sub_self]
    rfl
   rw [← e,List.map_set]
  show ((ixN ((es++[r1 == 0]).map PyData.bool).length (i:Int)).map fun k=>Fl.nx ((mEn mo ns k2 l2 W S way fence (es++[r1 == 0]) gs (some (.int i)) (some (aI r))).set 6 (some (.list (((es++[r1 == 0]).map PyData.bool).set k (.bool false))))))=_
  rw [ix]
  show some (Fl.nx ((mEn mo ns k2 l2 W S way fence (es++[r1 == 0]) gs (some (.int i)) (some (aI r))).set 6 (some (.list (((es++[r1 == 0]).map PyData.bool).set i (.bool false))))))=_
  rw [st]
  rfl
theorem ym {mo:Int} {ns:List Int} {k l:Int} {W:Nat} (mo1:1≤mo) (mo2:mo≤40) (hW:W≤12) (h0:0≤k) (h1:k≤1000) (h2:0≤l) :
  ∃ (es:List Bool) (gs:List (List (Option Nat))) (k' l':Int),ce [aC ns k l,.int W,.int mo]=some (aU es gs,[some (aC ns k' l'),none,none])∧1≤es.length∧(es.length:Int)≤mo∧gs.length=es.length∧(∀ r∈gs,cQ es.length W r)∧k≤k'∧k'≤k+600∧0≤l':=by
 obtain ⟨r1,k1,l1,e1,a1,a2,a3,a4,a5⟩:=eK (ns:=ns) (k:=k) (l:=l) (m:=mo) (i:=0) (en:=[some (aC ns k l),some (.int W),some (.int mo),none,none,none,none,none,none,none]) (fa:=aH 0 (af (ac 2) ah)) rfl rfl h0 (by omega) h2 (by omega) (by omega)
 obtain ⟨S,hS⟩:∃ S:Nat,(S:Int)=1+r1:=⟨(1+r1).toNat,by omega⟩
 obtain ⟨way,k2,l2,e2',b1,b2,b3,b4,b5⟩:=eK (ns:=ns) (k:=k1) (l:=l1) (m:=4) (i:=0) (en:=[some (aC ns k1 l1),some (.int W),some (.int mo),some (.int S),none,none,none,none,none,none]) (fa:=aH 0 (af (eC (.int 4)) ah)) rfl rfl (by omega) (by omega) a5 (by decide) (by decide)
 obtain ⟨r3,k3,l3,e3,c1,c2,c3,c4,c5⟩:=eK (ns:=ns) (k:=k2) (l:=l2) (m:=S) (i:=0) (en:=[some (aC ns k2 l2),some (.int W),some (.int mo),some (.int S),some (.int way),none,none,none,none,none]) (fa:=aH 0 (af (ac 3) ah)) rfl rfl (by omega) (by omega) b5 (by omega) (by omega)
 have hl:((List.range S).map fun k=>PyData.int (0+(k:Nat))).length=S:=by rw [List.length_map,List.length_range]
 obtain ⟨en',e4,es,gs,k',l',x,y,rfl,d1,d2,d3,d4,d5,d6⟩:=qZ (g:=gN 8) (b:=xq) (ts:=(List.range S).map fun k=>.int (0+(k:Nat)))
  (fun i en=>∃ es gs k' l' x y,en=mEn mo ns k' l' W S way (1+r3) es gs x y∧es.length=i∧gs.length=i∧(∀ r∈gs,cQ S W r)∧k3≤k'∧k'≤k3+13 * i∧0≤l')
  (fun i t en ht ⟨es,gs,k',l',x,y,hen,d1,d2,d3,d4,d5,d6⟩=>by
   subst hen
   have hi:i < S:=by have:=(List.getElem?_eq_some_iff.mp ht).1; rw [hl] at this; exact this
   have et:t=.int i:=by
    rw [List.getElem?_map,List.getElem?_range hi] at ht
    injection ht with ht
    rw [← ht]
    show PyData.int (0+(i:Int))=_
    rw [Int.zero_add]
   subst et
   obtain ⟨b,r,k4,l4,y',f1,f2,f3,f4,f5⟩:=zz (mo:=mo) (ns:=ns) (k:=k') (l:=l') (way:=way) (fence:=1+r3) (W:=W) (S:=S) (i:=i) (es:=es) (gs:=gs) (y:=y) hW (by omega) (by omega) (by omega) (by omega) d6 d1 d2
   refine ⟨mEn mo ns k' l' W S way (1+r3) es gs (some (.int i)) y,_,rfl,.inl f1,es++[b],gs++[r],k4,l4,some (.int i),y',rfl,by rw [List.length_append,d1]; rfl,by rw [List.length_append,d2]; rfl,fun q hq=>?_,by omega,by omega,f5⟩
   rcases List.mem_append.mp hq with hq | hq
   ·exact d3 q hq
   ·rw [List.mem_singleton.mp hq]
    exact f2)
  (en:=mEn mo ns k3 l3 W S way (1+r3) [] [] none none) ⟨[],[],k3,l3,none,none,rfl,rfl,rfl,fun _ z=>(by cases z),Int.le_refl _,by omega,c5⟩
 rw [hl] at d1 d2 d5
 refine ⟨es,gs,k',l',?_,by omega,by omega,by omega,by rw [d1]; exact d3,by omega,by omega,d6⟩
 have l0:∀ {en:En},aG ah en=some (.list [],en):=fun {en}=>mP rfl rfl (Nat.zero_le _)
 refine dz (b:=cG) (en:=mEn mo ns k' l' W S way (1+r3) es gs x y)
  (aN (en1:=[some (aC ns k1 l1),some (.int W),some (.int mo),some (.int S),none,none,none,none,none,none]) (cV (bA rfl e1 (show _=some (PyData.int S) by rw [hS]; rfl)) rfl)
  (aN (en1:=[some (aC ns k2 l2),some (.int W),some (.int mo),some (.int S),some (.int way),none,none,none,none,none]) (cV e2' rfl)
  (aN (en1:=[some (aC ns k3 l3),some (.int W),some (.int mo),some (.int S),some (.int way),some (.int (1+r3)),none,none,none,none]) (cV (bA rfl e3 rfl) rfl)
  (aN (en1:=[some (aC ns k3 l3),some (.int W),some (.int mo),some (.int S),some (.int way),some (.int (1+r3)),some (.list []),none,none,none]) (cV l0 rfl)
  (aN (en1:=[some (aC ns k3 l3),some (.int W),some (.int mo),some (.int S),some (.int way),some (.int (1+r3)),some (.list []),some (.list []),none,none]) (cV l0 rfl)
  (aN (Dp (nJ (n:=S) rfl (by omega)) e4) (jj (Dm rfl rfl (Nat.le_trans (by show 2≤100; decide) a8)))))))))
def az (v:List Int):D:=.list (v.map .int)
def jD (v:List Int):D→Option Int
 | .int j=>some (v.getD j.toNat 0)
 | _=>none
def rsD (v:List Int):D→Int
 | .list xs=>(xs.filterMap (jD v)).sum
 | _=>0
def nxt (gs:List (List (Option Nat))) (v:List Int):List Int:=gs.map fun r=>rsD v (aI r)
def base (es:List Bool):List Int:=es.map fun b=>if b then 1 else 0
def it (gs:List (List (Option Nat))) (v:List Int):Nat→List Int
 | 0=>v
 | n+1=>nxt gs (it gs v n)
def pF (v:List Int):D→D
 | .int j=>.int (v.getD j.toNat 0)
 | _=>.none
theorem iP (v:List Int):∀ r:List (Option Nat),gO ((((r.map goD).filter fun t=>!dh t)).map (pF v))=some ((r.map goD).filterMap (jD v))
 | []=>rfl
 | none :: r=>iP v r
 | some j :: r=>by
  show (gO ((((r.map goD).filter fun t=>!dh t)).map (pF v))).map (v.getD (j:Int).toNat 0 :: ·)=_
  rw [iP v r]
  rfl
theorem nC {v:List Int} {j:Nat} (h:j < v.length):ixA (az v) (.int j)=some (.int (v.getD j 0)):=by
 show atI (v.map PyData.int) (j:Int)=_
 unfold atI
 rw [fK (by rw [List.length_map]; exact h)]
 show (v.map PyData.int)[j]?=_
 rw [List.getElem?_map,List.getElem?_eq_getElem h,List.getD_eq_getElem?_getD,List.getElem?_eq_getElem h]
 rfl
def inF:ME:=eN iJ (af (eLC true (bb (ac 0)) (gN 0) (tV (e2 dX (ac 0) (eC .none))) (e2 ixA (ac 1) (ac 0)) [none,some 1]) ah)
theorem xz {v:List Int} {r:List (Option Nat)} {S W:Nat} (hr:cQ S W r) (hv:v.length=S) (hW:W≤12):inF [some (aI r),some (az v)]=some (.int (rsD v (aI r)),[some (aI r),some (az v)]):=by
 obtain ⟨o',e⟩:=dY (c:=tV (e2 dX (ac 0) (eC .none))) (f:=e2 ixA (ac 1) (ac 0)) (p:=fun t=>!dh t) (F:=pF v) (rest:=[some (az v)]) (r.map goD) [] none
  (fun t ht=>by
   obtain ⟨o,ho,rfl⟩:=List.mem_map.mp ht
   cases o <;> rfl)
  (fun t ht hp=>by
   obtain ⟨o,ho,rfl⟩:=List.mem_map.mp ht
   cases o with
   | none=>cases hp
   | some j=>exact bA rfl rfl (nC (by rw [hv]; exact hr.2 _ ho _ rfl)))
  (by rw [List.length_map,hr.1]; exact Nat.le_trans (by show 0+W≤100; omega) a8)
 refine mO (fF (ka rfl e rfl) rfl) rfl ?_
 show (gO _).map _=_
 rw [List.nil_append,iP]
 rfl
theorem xI {i:Nat} {en:En} {es:List Bool} {gs:List (List (Option Nat))} {v:List Int} {S W:Nat} (h0:(ac 0) en=some (aU es gs,en)) (hi:(en[i]?).join=some (az v)) (hg:∀ r∈gs,cQ S W r) (hl:gs.length≤60) (hv:v.length=S) (hW:W≤12) :
  eLC true (bb (e2 ixA (ac 0) (eC (.int 1)))) (gN 0) cY inF [none,some i] en=some (az (nxt gs v),en):=by
 obtain ⟨o',e⟩:=je (f:=inF) (F:=fun t=>.int (rsD v t)) (rest:=[some (az v)]) (gs.map aI) [] none
  (fun t ht=>by
   obtain ⟨r,hr,rfl⟩:=List.mem_map.mp ht
   exact xz (hg r hr) hv hW)
  (by rw [List.length_map]; exact Nat.le_trans (by show 0+_≤100; omega) a8)
 have e2':(gs.map aI).map (fun t=>PyData.int (rsD v t))=(nxt gs v).map .int:=by
  unfold nxt
  rw [List.map_map,List.map_map]
  rfl
 rw [List.nil_append,e2'] at e
 refine ka (ts:=gs.map aI) (en1:=en) (ex:=[o',some (az v)]) ?_ ?_ rfl
 ·have:e2 ixA (ac 0) (eC (.int 1)) en=some (.list (gs.map aI),en):=bA h0 rfl rfl
  unfold bb
  rw [this]
  rfl
 ·show lcF (gN 0) cY inF (gs.map aI) [] [none,(en[i]?).join]=_
  rw [hi]
  exact e
def b1F:D→D
 | .bool b=>.int (if b then 1 else 0)
 | _=>.none
theorem zC {en:En} {es:List Bool} {gs:List (List (Option Nat))} {f:ME} (h0:(ac 0) en=some (aU es gs,en)) (hf:∀ b,f [some (.bool b)]=some (.int (if b then 1 else 0),[some (.bool b)])) (hl:es.length≤60) :
  eLC true (bb (e2 ixA (ac 0) (eC (.int 0)))) (gN 0) cY f [none] en=some (az (base es),en):=by
 obtain ⟨o',e⟩:=je (f:=f) (F:=b1F) (rest:=[]) (es.map .bool) [] none
  (fun t ht=>by
   obtain ⟨b,hb,rfl⟩:=List.mem_map.mp ht
   exact hf b)
  (by rw [List.length_map]; exact Nat.le_trans (by show 0+_≤100; omega) a8)
 have e2':(es.map PyData.bool).map b1F=(base es).map .int:=by
  unfold base
  rw [List.map_map,List.map_map]
  rfl
 rw [List.nil_append,e2'] at e
 refine ka (ts:=es.map .bool) (en1:=en) ?_ e rfl
 have:e2 ixA (ac 0) (eC (.int 0)) en=some (.list (es.map .bool),en):=bA h0 rfl rfl
 unfold bb
 rw [this]
 rfl
structure MOk (S W:Nat) (es:List Bool) (gs:List (List (Option Nat))):Prop where
 s1:1≤S
 s2:S≤40
 w1:1≤W
 w2:W≤12
 le:es.length=S
 lg:gs.length=S
 ok:∀ r∈gs,cQ S W r
section
variable {S W:Nat} {es:List Bool} {gs:List (List (Option Nat))}
theorem MOk.lit (M:MOk S W es gs):∀ n,(it gs (base es) n).length=S
 | 0=>by show (es.map _).length=S; rw [List.length_map,M.le]
 | n+1=>by show (gs.map _).length=S; rw [List.length_map,M.lg]
def eD (gs:List (List (Option Nat))) (es:List Bool) (n:Nat):D:=.list ((List.range (n+1)).map fun i=>az (it gs (base es) i))
theorem fJ {n:Nat}:((List.range (n+1)).map fun i=>az (it gs (base es) i)).length=n+1:=by rw [List.length_map,List.length_range]
theorem qr {n:Nat}:atI ((List.range (n+1)).map fun i=>az (it gs (base es) i)) (-1)=some (az (it gs (base es) n)):=by
 unfold atI ixN
 rw [fJ,if_neg (by decide),if_pos (by omega)]
 show ((List.range (n+1)).map fun i=>az (it gs (base es) i))[((-1:Int)+((n+1:Nat):Int)).toNat]?=_
 rw [show ((-1:Int)+((n+1:Nat):Int)).toNat=n by omega,List.getElem?_map,List.getElem?_range (by omega)]
 rfl
theorem qp {n:Nat}:((List.range (n+1)).map fun i=>az (it gs (base es) i))++[az (it gs (base es) (n+1))]=(List.range (n+1+1)).map fun i=>az (it gs (base es) i):=by
 rw [List.range_succ (n:=n+1),List.map_append]
 rfl
theorem yh (M:MOk S W es gs):bF [aU es gs]=some (az (base es),[none]) :=
 dz (b:=b8) (en:=[some (aU es gs)]) (jj (zC rfl (fun b=>by cases b <;> rfl) (by rw [M.le]; have:=M.s2; omega)))
theorem yk (M:MOk S W es gs) {v:List Int} (hv:v.length=S):bg [aU es gs,az v]=some (az (nxt gs v),[none,none]) :=
 dz (b:=bx) (en:=[some (aU es gs),some (az v)]) (jj (xI rfl rfl M.ok (by rw [M.lg]; have:=M.s2; omega) hv M.w2))
end
theorem lM {v:List Int} {B:Int} (h0:0≤B) (h:∀ x∈v,0≤x∧x≤B):∀ r:List (Option Nat),0≤((r.map goD).filterMap (jD v)).sum∧((r.map goD).filterMap (jD v)).sum≤r.length * B
 | []=>⟨Int.le_refl 0,by show (0:Int)≤(0:Nat) * B; simp⟩
 | none :: r=>by
  have:=lM h0 h r
  refine ⟨this.1,?_⟩
  show ((r.map goD).filterMap (jD v)).sum≤((r.length+1:Nat):Int) * B
  rw [Int.natCast_add,Int.add_mul]
  have:(0:Int)≤((1:Nat):Int) * B:=by omega
  omega
 | some j :: r=>by
  have q:=lM h0 h r
  have e:(((some j :: r).map goD).filterMap (jD v)).sum=v.getD j 0+((r.map goD).filterMap (jD v)).sum:=rfl
  have g:0≤v.getD j 0∧v.getD j 0≤B:=by
   rw [List.getD_eq_getElem?_getD]
   cases hj:v[j]? with
   | none=>exact ⟨by decide,h0⟩
   | some x=>exact h x (List.mem_of_getElem? hj)
  rw [e]
  refine ⟨by omega,?_⟩
  show _≤((r.length+1:Nat):Int) * B
  rw [Int.natCast_add,Int.add_mul]
  have:((1:Nat):Int) * B=B:=by simp
  omega
section
variable {S W:Nat} {es:List Bool} {gs:List (List (Option Nat))}
theorem MOk.itB (M:MOk S W es gs):∀ n,∀ x∈it gs (base es) n,0≤x∧x≤((W ^ n:Nat):Int)
 | 0=>fun x hx=>by
  obtain ⟨b,_,rfl⟩:=List.mem_map.mp hx
  cases b with
  | false=>exact ⟨Int.le_refl 0,Int.natCast_nonneg _⟩
  | true=>exact ⟨by show (0:Int)≤1; decide,by show (1:Int)≤((W ^ 0:Nat):Int); rw [Nat.pow_zero]; decide⟩
 | n+1=>fun x hx=>by
  obtain ⟨r,hr,rfl⟩:=List.mem_map.mp hx
  have:=lM (B:=((W ^ n:Nat):Int)) (Int.natCast_nonneg _) (M.itB n) r
  rw [(M.ok r hr).1,← Int.natCast_mul] at this
  rw [show W ^ (n+1)=W * W ^ n by rw [Nat.pow_succ,Nat.mul_comm]]
  exact this
end
end Mch
namespace L2
open PySem PySem.Spec PyProof.Rows
structure W {α:Type} (x:Option α) (Q:α→Prop):Prop where
 ex:∃ a,x=some a∧Q a
theorem ay {α:Type} (a:α) (Q:α→Prop):W (some a) Q=Q a:=propext ⟨fun ⟨b,e,h⟩=>(Option.some.inj e) ▸ h,fun h=>⟨a,rfl,h⟩⟩
theorem bu {α:Type} (Q:α→Prop):W (none:Option α) Q=False:=propext ⟨(fun ⟨b,e,h⟩=>by cases e),(fun h=>h.elim)⟩
theorem W.use {α:Type} {x:Option α} {P Q:α→Prop} (h:W x P) (k:∀ a,P a→Q a):W x Q :=
 let ⟨a,e,h⟩:=h.ex
 ⟨a,e,k a h⟩
theorem W.of {α:Type} {x:Option α} {P:α→Prop} {a:α} (e:x=some a) (h:P a):W x P:=⟨a,e,h⟩
theorem aA {α β:Type} (x:Option α) (f:α→Option β) (Q:β→Prop):W (x.bind f) Q=W x (fun a=>W (f a) Q):=by
 cases x with
 | none=>show W none _=_; rw [bu,bu]
 | some a=>show W (f a) Q=_; rw [ay]
theorem bN {α β:Type} (x:Option α) (f:α→β) (Q:β→Prop):W (x.map f) Q=W x (fun a=>Q (f a)):=by
 cases x with
 | none=>show W none _=_; rw [bu,bu]
 | some a=>show W (some (f a)) Q=_; rw [ay,ay]
theorem oM {α:Type} (c:Prop) [Decidable c] (a:α) (Q:α→Prop):W (grd c a) Q=(c∧Q a):=by
 unfold grd
 by_cases h:c
 ·rw [if_pos h,ay]; exact propext ⟨fun z=>⟨h,z⟩,fun z=>z.2⟩
 ·rw [if_neg h,bu]; exact propext ⟨fun z=>z.elim,fun z=>h z.1⟩
theorem fX {α:Type} (c:Prop) [Decidable c] (a:α) (Q:α→Prop):W (if c then some a else none) Q=(c∧Q a):=oM c a Q
theorem ED {α:Type} (c:Prop) [Decidable c] (x:Option α) (Q:α→Prop):W (if c then x else none) Q=(c∧W x Q):=by
 by_cases h:c
 ·rw [if_pos h]; exact propext ⟨fun z=>⟨h,z⟩,fun z=>z.2⟩
 ·rw [if_neg h,bu]; exact propext ⟨fun z=>z.elim,fun z=>h z.1⟩
def gv (en:En) (i:Nat):Option D:=(en[i]?).join
def gk (ts:List D) (n:Int) (t:D):Option (List D):=(ixN ts.length n).map fun k=>ts.set k t
def Fv (ts:List D) (n:Int):Option (D × List D):=(seqIndex? n ts.length).bind fun k=>(ts[k]?).map fun t=>(t,ts.eraseIdx k)
def lU (i:Int) (n:Nat):List D:=(List.range n).map fun k=>.int (i+(k:Nat))
section
variable {α β:Type}
def mw (b:MS) (Q:Fl→Prop):Fl→Prop:=fun fl=>W (match fl with | .nx en1=>b en1 | .rt t en1=>some (.rt t en1) | .ct en1=>some (.ct en1)) Q
def Co (i:Nat) (Q:Fl→Prop):D × En→Prop:=fun r=>Q (.nx (r.2.set i (some r.1)))
def Ct (Q:Fl→Prop):D × En→Prop:=fun r=>Q (.nx r.2)
def Cp (Q:Fl→Prop):D × En→Prop:=fun r=>Q (.rt r.1 r.2)
def kIf (f g:En→Option β) (Q:β→Prop):Bool × En→Prop:=fun r=>W (if r.1 then f r.2 else g r.2) Q
def Cs (g:MG) (b:MS) (Q:Fl→Prop):List D × En→Prop:=fun r=>W (bS g b r.1 r.2) Q
def jZ (g:MG) (b:MS) (ts:List D) (Q:Fl→Prop):Fl→Prop:=fun fl=>W (match fl with | .nx en2=>bS g b ts en2 | .ct en2=>bS g b ts en2 | .rt r en2=>some (.rt r en2)) Q
def xu (g:MG) (b:MS) (ts:List D) (Q:Fl→Prop):En→Prop:=fun en=>W (b en) (jZ g b ts Q)
def kNx (Q:Fl→Prop):En→Prop:=fun en=>Q (.nx en)
def Cu (g:MG) (Q:Fl→Prop):D × En→Prop:=fun r=>W (g r.1 r.2) (kNx Q)
def qI (i:Nat) (en:En) (Q:Fl→Prop):List D→Prop:=fun ts=>Q (.nx (en.set i (some (.list ts))))
def jY (i:Nat) (t:D) (Q:Fl→Prop):D × En→Prop:=fun q=>W (match q.1,(q.2[i]?).join with | .int n,some (.list ts)=>(ixN ts.length n).map fun k=>.nx (q.2.set i (some (.list (ts.set k t)))) | _,_=>none) Q
def om (i:Nat) (fk:ME) (Q:Fl→Prop):D × En→Prop:=fun r=>W (match (r.2[i]?).join with | some _=>((fk r.2).bind fun q=>(match q.1,(q.2[i]?).join with | .int n,some (.list ts)=>(ixN ts.length n).map fun k=>.nx (q.2.set i (some (.list (ts.set k r.1)))) | _,_=>none)) | none=>none) Q
def pA (i:Nat) (t:D) (fk:ME) (en:En) (Q:Fl→Prop):D→Prop:=fun _x=>W (fk en) (jY i t Q)
def mt (i:Nat) (t:D) (n:Int) (en:En) (Q:Fl→Prop):D→Prop:=fun x=>W (match x with | .list ts=>(ixN ts.length n).map fun k=>.nx (en.set i (some (.list (ts.set k t)))) | _=>none) Q
def fR (en:En) (Q:D × En→Prop):D→Prop:=fun t=>Q (t,en)
def k1 (g:D→Option D) (Q:D × En→Prop):D × En→Prop:=fun r=>W (g r.1) (fR r.2 Q)
def k2b (g:D→D→Option D) (t:D) (Q:D × En→Prop):D × En→Prop:=fun q=>W (g t q.1) (fR q.2 Q)
def k2 (g:D→D→Option D) (f:ME) (Q:D × En→Prop):D × En→Prop:=fun r=>W (f r.2) (k2b g r.1 Q)
def qL (g:ME) (Q:D × En→Prop):D × En→Prop:=fun r=>W (match r.1 with | .bool true=>g r.2 | .bool false=>some (.bool false,r.2) | _=>none) Q
def kOr (g:ME) (Q:D × En→Prop):D × En→Prop:=fun r=>W (match r.1 with | .bool true=>some (.bool true,r.2) | .bool false=>g r.2 | _=>none) Q
def Cq (Q:D × En→Prop):D × En→Prop:=fun r=>W (match r.1 with | .bool b=>some (.bool (!b),r.2) | _=>none) Q
def kTV (Q:Bool × En→Prop):D × En→Prop:=fun r=>W (match r.1 with | .bool b=>some (b,r.2) | _=>none) Q
def ou (g:MT) (Q:Bool × En→Prop):Bool × En→Prop:=fun r=>W (if r.1 then g r.2 else some (false,r.2)) Q
def qK (g:MT) (Q:Bool × En→Prop):Bool × En→Prop:=fun r=>W (if r.1 then some (true,r.2) else g r.2) Q
def xw (Q:Bool × En→Prop):Bool × En→Prop:=fun r=>Q (!r.1,r.2)
def qN (t:D) (Q:List (D ⊕ Nat) × En→Prop):List (D ⊕ Nat) × En→Prop:=fun y=>Q (.inl t :: y.1,y.2)
def kAC (r:MA) (Q:List (D ⊕ Nat) × En→Prop):D × En→Prop:=fun x=>W (r x.2) (qN x.1 Q)
def qM (i:Nat) (Q:List (D ⊕ Nat) × En→Prop):List (D ⊕ Nat) × En→Prop:=fun y=>Q (.inr i :: y.1,y.2)
def kAS (i:Nat) (r:MA) (en:En) (Q:List (D ⊕ Nat) × En→Prop):D→Prop:=fun _x=>W (r en) (qM i Q)
def kN2 (g:List D→Option D) (en:En) (Q:D × En→Prop):List D→Prop:=fun ts=>W (g ts) (fR en Q)
def kN (g:List D→Option D) (Q:D × En→Prop):List (D ⊕ Nat) × En→Prop:=fun r=>W (bz r.1) (kN2 g r.2 Q)
def on (en:En) (Q:D × En→Prop):List D→Prop:=fun ts=>W (if ts.length≤sizeLine then some (.list ts,en) else none) Q
def Cr (Q:D × En→Prop):List (D ⊕ Nat) × En→Prop:=fun r=>W (bz r.1) (on r.2 Q)
def oi (en:En) (Q:D × En→Prop):List D→Prop:=fun ts=>W (if ts.length≤sizeLine then some (.tuple ts,en) else none) Q
def Cn (Q:D × En→Prop):List (D ⊕ Nat) × En→Prop:=fun r=>W (bz r.1) (oi r.2 Q)
def my (as:List (D ⊕ Nat)) (en:En) (Q:D × En→Prop):D × En→Prop:=fun q=>Q (q.1,wb as q.2 en)
def mz (F:List D→Option (D × En)) (as:List (D ⊕ Nat)) (en:En) (Q:D × En→Prop):List D→Prop:=fun ts=>W (F ts) (my as en Q)
def xv (F:List D→Option (D × En)) (Q:D × En→Prop):List (D ⊕ Nat) × En→Prop:=fun r=>W (c9 r.1 r.2) (mz F r.1 r.2 Q)
def kFn (dps:List Nat) (Q:D × En→Prop):Fl→Prop:=fun fl=>W (match fl with | .rt t en=>some (t,msk dps en) | .nx en=>some (.none,msk dps en) | .ct _=>none) Q
def oq (q:Bool) (js:List (Option Nat)) (en:En) (Q:D × En→Prop):List D × En→Prop:=fun z=>Q (.list z.1,if q then en else wbB js z.2 en)
def kLC (q:Bool) (g:MG) (c:MT) (f:ME) (js:List (Option Nat)) (Q:D × En→Prop):List D × En→Prop:=fun r=>W (lcF g c f r.1 [] (cq js r.2)) (oq q js r.2 Q)
def kL3 (g:MG) (c:MT) (f:ME) (ts acc:List D) (Q:List D × En→Prop):D × En→Prop:=fun q=>W (if acc.length < sizeLine then lcF g c f ts (acc++[q.1]) q.2 else none) Q
def kL2 (g:MG) (c:MT) (f:ME) (ts acc:List D) (Q:List D × En→Prop):Bool × En→Prop:=fun r=>W (if r.1 then (f r.2).bind fun q=>if acc.length < sizeLine then lcF g c f ts (acc++[q.1]) q.2 else none else lcF g c f ts acc r.2) Q
def kL1 (g:MG) (c:MT) (f:ME) (ts acc:List D) (Q:List D × En→Prop):En→Prop:=fun en=>W (c en) (kL2 g c f ts acc Q)
def oz (Q:List D × En→Prop):D × En→Prop:=fun r=>W ((xj r.1).map fun ts=>(ts,r.2)) Q
def kR1 (Q:List D × En→Prop):List (D ⊕ Nat) × En→Prop:=fun r=>W (match r.1 with | [.inl (.int j)]=>if -(2 ^ 62)≤j∧j < 2 ^ 62 then some ((List.range j.toNat).map fun k=>.int (0+(k:Nat)),r.2) else none | _=>none) Q
def kR2 (Q:List D × En→Prop):List (D ⊕ Nat) × En→Prop:=fun r=>W (match r.1 with | [.inl (.int i),.inl (.int j)]=>if -(2 ^ 62)≤i∧i < 2 ^ 62∧-(2 ^ 62)≤j∧j < 2 ^ 62 then some ((List.range (j - i).toNat).map fun k=>.int (i+(k:Nat)),r.2) else none | _=>none) Q
def Cj (Q:List D × En→Prop):List (D ⊕ Nat) × En→Prop:=fun r=>W (match r.1 with | [.inl (.list ts),.inl (.list us)]=>some (eB ts us,r.2) | _=>none) Q
def pi (n:Int) (en:En) (Q:D × En→Prop):D→Prop:=fun x=>W (match x with | .list ts=>(atI ts n).map fun t=>(t,en) | _=>none) Q
def jX (i:Nat) (Q:D × En→Prop):D × En→Prop:=fun r=>W (match r.1,(r.2[i]?).join with | .int n,some (.list ts)=>(atI ts n).map fun t=>(t,r.2) | _,_=>none) Q
def xt (i:Nat) (f:ME) (en:En) (Q:D × En→Prop):D→Prop:=fun _x=>W (f en) (jX i Q)
def oy (i:Nat) (Q:D × En→Prop):D × En→Prop:=fun r=>W (match (r.2[i]?).join with | some (.list ts)=>if ts.length < sizeLine then some (PyData.none,r.2.set i (some (.list (ts++[r.1])))) else none | _=>none) Q
def xx (i:Nat) (t:D) (en:En) (Q:D × En→Prop):D→Prop:=fun x=>W (match x with | .list ts=>if ts.length < sizeLine then some (PyData.none,en.set i (some (.list (ts++[t])))) else none | _=>none) Q
def Cw (i:Nat) (f:ME) (en:En) (Q:D × En→Prop):D→Prop:=fun x=>W (match x with | .list _=>((f en).bind fun r=>(match (r.2[i]?).join with | some (.list ts)=>if ts.length < sizeLine then some (PyData.none,r.2.set i (some (.list (ts++[r.1])))) else none | _=>none)) | _=>none) Q
def kOS (Q:Option Int × En→Prop):D × En→Prop:=fun r=>W (match r.1 with | .int i=>some (some i,r.2) | _=>none) Q
def qG (g:D→Option Int→Option Int→Option D) (t:D) (lo:Option Int) (Q:D × En→Prop):Option Int × En→Prop:=fun h=>W (g t lo h.1) (fR h.2 Q)
def qH (g:D→Option Int→Option Int→Option D) (t:D) (hi:MO) (Q:D × En→Prop):Option Int × En→Prop:=fun l=>W (hi l.2) (qG g t l.1 Q)
def kSl (g:D→Option Int→Option Int→Option D) (lo hi:MO) (Q:D × En→Prop):D × En→Prop:=fun r=>W (lo r.2) (qH g r.1 hi Q)
def ot (i:Nat) (Q:D × En→Prop):D × En→Prop:=fun r=>W (match (r.2[i]?).join with | some (.dict ks)=>(kOf r.1).bind fun _=>(eX ks r.1).map fun t=>(t,r.2) | _=>none) Q
def EO (q:D) (en:En) (Q:D × En→Prop):D→Prop:=fun x=>W (match x with | .dict ks=>(kOf q).bind fun _=>(eX ks q).map fun t=>(t,en) | _=>none) Q
def kDg (f:ME) (i:Nat) (en:En) (Q:D × En→Prop):D→Prop:=fun _x=>W (f en) (ot i Q)
def kIt (J:En→Prop) (Q:Fl→Prop):Fl→Prop:=fun fl=>match fl with | .nx e=>J e | .ct e=>J e | .rt t e=>Q (.rt t e)
def qJ (us:List D) (J:List D→En→Prop):D × En→Prop:=fun r=>J (us++[r.1]) r.2
def oo (f:ME) (us:List D) (J:List D→En→Prop):Bool × En→Prop:=fun r=>if r.1 then W (f r.2) (qJ us J) else J us r.2
def EM (c:MT) (f:ME) (us:List D) (J:List D→En→Prop):En→Prop:=fun en=>W (c en) (oo f us J)
def kWh (b:MS) (J:En→Prop) (Q:Fl→Prop):Bool × En→Prop:=fun r=>if r.1 then W (b r.2) (kIt J Q) else Q (.nx r.2)
def kFg (b:MS) (J:En→Prop) (Q:Fl→Prop):En→Prop:=fun en=>W (b en) (kIt J Q)
def kGs (q:List D→En→Option En) (ts:List D) (Q:En→Prop):En→Prop:=fun en=>W (q ts en) Q
def j2 (t:D) (Q:List D→Prop):List D→Prop:=fun ts=>Q (t :: ts)
def Cv (r:List (D ⊕ Nat)) (en:En) (Q:List D→Prop):D→Prop:=fun t=>W (c9 r en) (j2 t Q)
theorem aY {α:Type} (ts:List α) (n:Nat):atI ts (n:Int)=ts[n]?:=by
 unfold atI ixN
 rw [if_pos (by omega)]
 by_cases h:n < ts.length
 ·rw [if_pos (by omega)]; rfl
 ·rw [if_neg (by omega),List.getElem?_eq_none (by omega)]; rfl
theorem eF {ts:List D} {t:D} (n:Nat) (h:n < ts.length):gk ts (n:Int) t=some (ts.set n t):=by
 unfold gk ixN
 rw [if_pos (by omega),if_pos (by omega)]
 rfl
theorem zw (x:D) (l:List D):bX (x :: l) (some 1) none=l:=by
 unfold bX
 rw [HT.sIx_none,show (some (1:Int))=some ((1:Nat):Int) from rfl,HT.sIx_nat,Nat.min_eq_left (by simp),List.drop_one]
 exact List.take_of_length_le (by simp)
theorem EC (x:D) (l:List D):(HT.sIx (x :: l).length 0 (some 1)=0)=False:=by
 rw [show (some (1:Int))=some ((1:Nat):Int) from rfl,HT.sIx_nat,Nat.min_eq_left (by simp)]
 exact eq_false (by decide)
theorem nG (a b:Int):(a == b)=decide (a=b):=by
 by_cases h:a=b
 ·rw [h,decide_eq_true rfl]; exact beq_self_eq_true b
 ·rw [decide_eq_false h]; exact beq_eq_false_iff_ne.mpr h
theorem zt (a b:Bool):eqD (.bool a) (.bool b)=some (.bool (a == b)):=by
 show grd _ _=_
 unfold grd
 rw [if_pos ⟨rfl,rfl,Nat.zero_le _⟩]
 simp only [peq]
theorem yj (a b:Bool):neD (.bool a) (.bool b)=some (.bool (!(a == b))):=by
 show grd _ _=_
 unfold grd
 rw [if_pos ⟨rfl,rfl,Nat.zero_le _⟩]
 simp only [peq]
theorem nk (a b:Str):(a == b)=decide (a=b):=by
 by_cases h:a=b
 ·rw [h,decide_eq_true rfl]; exact beq_self_eq_true b
 ·rw [decide_eq_false h]; exact beq_eq_false_iff_ne.mpr h
theorem Dq (a b:Str):eqD (.str a) (.str b)=some (.bool (decide (a=b))):=by
 show grd _ _=_
 unfold grd
 rw [if_pos ⟨rfl,rfl,Nat.zero_le _⟩,← nk]
 simp only [peq]
theorem Cb (a b:Str):neD (.str a) (.str b)=some (.bool (!decide (a=b))):=by
 show grd _ _=_
 unfold grd
 rw [if_pos ⟨rfl,rfl,Nat.zero_le _⟩,← nk]
 simp only [peq]
theorem Dr:eqD (.list []) (.list [])=some (.bool true):=by
 show grd _ _=_
 unfold grd
 rw [if_pos ⟨rfl,rfl,by decide⟩]
 rfl
theorem Cc:neD (.list []) (.list [])=some (.bool false):=by
 show grd _ _=_
 unfold grd
 rw [if_pos ⟨rfl,rfl,by decide⟩]
 rfl
variable (en:En) (Qs:Fl→Prop) (Qe:D × En→Prop) (Qb:Bool × En→Prop) (Qa:List (D ⊕ Nat) × En→Prop) (Ql:List D × En→Prop) (Qd:D→Prop) (Qt:List D→Prop) (Qn:En→Prop) (f:ME) (g:MG) (fa:MA) (c:MT) (ts:List D) (i:Nat)
theorem ws0 (α:Type) (a:α) (Q:α→Prop):W (some a) Q=Q a:=ay _ _
theorem ws1 (α:Type) (Q:α→Prop):W (none:Option α) Q=False:=bu _
theorem ws2 (α:Type) (c:Prop) (_:Decidable c) (a:α) (Q:α→Prop):W (grd c a) Q=(c∧Q a):=oM c a Q
theorem ws3 (a:Option D) (l:En):gv (a :: l) 0=a:=rfl
theorem ws4 (a:Option D) (l:En):gv (a :: l) (i+1)=gv l i:=rfl
theorem ws5 (a b:Option D) (l:En):List.set (a :: l) 0 b=b :: l:=rfl
theorem ws6 (a b:Option D) (l:En):List.set (a :: l) (i+1) b=a :: List.set l i b:=rfl
theorem ws7 (a b:MS):W (ak a b en) Qs=W (a en) (mw b Qs):=aA _ _ _
theorem ws8 (b:MS):mw b Qs (.nx en)=W (b en) Qs:=rfl
theorem ws9 (b:MS) (t:D):mw b Qs (.rt t en)=Qs (.rt t en):=ay _ _
theorem Bu (b:MS):mw b Qs (.ct en)=Qs (.ct en):=ay _ _
theorem Bt:W (ar i f en) Qs=W (f en) (Co i Qs):=bN _ _ _
theorem Bs (t:D):Co i Qs (t,en)=Qs (.nx (en.set i (some t))):=rfl
theorem Br:W (bQ f en) Qs=W (f en) (Ct Qs):=bN _ _ _
theorem Bq (t:D):Ct Qs (t,en)=Qs (.nx en):=rfl
theorem Bp:W (aQ f en) Qs=W (f en) (Cp Qs):=bN _ _ _
theorem Bo (t:D):Cp Qs (t,en)=Qs (.rt t en):=rfl
theorem Bn:W (bD en) Qs=Qs (.nx en):=ay _ _
theorem Bm (a b:MS):W (sIf c a b en) Qs=W (c en) (kIf a b Qs):=aA _ _ _
theorem Bk (β:Type) (a b:En→Option β) (Q:β→Prop):kIf a b Q (true,en)=W (a en) Q:=rfl
theorem Bj (β:Type) (a b:En→Option β) (Q:β→Prop):kIf a b Q (false,en)=W (b en) Q:=rfl
theorem Bi (fi:MI) (b:MS):W (cR fi g b en) Qs=W (fi en) (Cs g b Qs):=aA _ _ _
theorem Bh (b:MS):Cs g b Qs (ts,en)=W (bS g b ts en) Qs:=rfl
theorem Bg (b:MS):W (bS g b [] en) Qs=Qs (.nx en):=ay _ _
theorem Bf (b:MS) (t:D):W (bS g b (t :: ts) en) Qs=W (g t en) (xu g b ts Qs):=(aA _ _ _).trans (congrArg _ (funext fun z=>aA _ _ _))
theorem Be (b:MS):xu g b ts Qs en=W (b en) (jZ g b ts Qs):=rfl
theorem Bd (b:MS):jZ g b ts Qs (.nx en)=W (bS g b ts en) Qs:=rfl
theorem Bc (b:MS):jZ g b ts Qs (.ct en)=W (bS g b ts en) Qs:=rfl
theorem Bb (b:MS) (t:D):jZ g b ts Qs (.rt t en)=Qs (.rt t en):=ay _ _
theorem Ba:W (jB f g en) Qs=W (f en) (Cu g Qs):=(aA _ _ _).trans (congrArg _ (funext fun z=>bN _ _ _))
theorem A9 (t:D):Cu g Qs (t,en)=W (g t en) (kNx Qs):=rfl
theorem A8:kNx Qs en=Qs (.nx en):=rfl
theorem A7 (t:D):W (gN i t en) Qn=Qn (en.set i (some t)):=ay _ _
theorem A6 (g:List D→En→Option En):W (gT g (.tuple ts) en) Qn=W (g ts en) Qn:=rfl
theorem A5 (q:List D→En→Option En) (t:D):W (gsC g q (t :: ts) en) Qn=W (g t en) (kGs q ts Qn):=aA _ _ _
theorem A4 (q:List D→En→Option En):kGs q ts Qn en=W (q ts en) Qn:=rfl
theorem A3:W (gs0 [] en) Qn=Qn en:=ay _ _
theorem A2 (fk fe:ME):W (gg i fk fe en) Qs=W (fe en) (om i fk Qs):=aA _ _ _
theorem A1 (fk:ME) (t:D):om i fk Qs (t,en)=W (gv en i) (pA i t fk en Qs):=by unfold om gv; cases h:(en[i]?).join with | none=>simp only [h,bu] | some x=>simp only [h,ay]; exact aA _ _ _
theorem A0 (t:D) (fk:ME) (x:D):pA i t fk en Qs x=W (fk en) (jY i t Qs):=rfl
theorem AZ (t:D) (n:Int):jY i t Qs (.int n,en)=W (gv en i) (mt i t n en Qs):=by unfold jY gv; cases h:(en[i]?).join with | none=>simp only [h,bu] | some x=>simp only [h,ay]; cases x <;> first | rfl | exact (ay _ _).symm | (rw [ay]; rfl) | (rw [ay]; exact bu _)
theorem AY (t:D) (n:Int):mt i t n en Qs (.list ts)=W (gk ts n t) (qI i en Qs):=by unfold mt gk qI; dsimp only; rw [bN,bN]
theorem AX:qI i en Qs ts=Qs (.nx (en.set i (some (.list ts)))):=rfl
theorem AW (x0 t:D) (l:List D):gk (x0 :: l) 0 t=some (t :: l):=eF 0 (by simp only [List.length_cons]; omega)
theorem AV (x0 x1 t:D) (l:List D):gk (x0 :: x1 :: l) 1 t=some (x0 :: t :: l):=eF 1 (by simp only [List.length_cons]; omega)
theorem AU (x0 x1 x2 t:D) (l:List D):gk (x0 :: x1 :: x2 :: l) 2 t=some (x0 :: x1 :: t :: l):=eF 2 (by simp only [List.length_cons]; omega)
theorem AT (x0 x1 x2 x3 t:D) (l:List D):gk (x0 :: x1 :: x2 :: x3 :: l) 3 t=some (x0 :: x1 :: x2 :: t :: l):=eF 3 (by simp only [List.length_cons]; omega)
theorem AR (x0 x1 x2 x3 x4 t:D) (l:List D):gk (x0 :: x1 :: x2 :: x3 :: x4 :: l) 4 t=some (x0 :: x1 :: x2 :: x3 :: t :: l):=eF 4 (by simp only [List.length_cons]; omega)
theorem AQ (x0 x1 x2 x3 x4 x5 t:D) (l:List D):gk (x0 :: x1 :: x2 :: x3 :: x4 :: x5 :: l) 5 t=some (x0 :: x1 :: x2 :: x3 :: x4 :: t :: l):=eF 5 (by simp only [List.length_cons]; omega)
theorem AO:W (ac i en) Qe=W (gv en i) (fR en Qe):=bN _ _ _
theorem AN (t:D):fR en Qe t=Qe (t,en):=rfl
theorem AM (t:D):W (eC t en) Qe=Qe (t,en):=ay _ _
theorem AL (g:D→Option D):W (e1 g f en) Qe=W (f en) (k1 g Qe):=(aA _ _ _).trans (congrArg _ (funext fun z=>bN _ _ _))
theorem AK (g:D→Option D) (t:D):k1 g Qe (t,en)=W (g t) (fR en Qe):=rfl
theorem AJ (g:D→D→Option D) (f1 f2:ME):W (e2 g f1 f2 en) Qe=W (f1 en) (k2 g f2 Qe):=(aA _ _ _).trans (congrArg _ (funext fun z=>(aA _ _ _).trans (congrArg _ (funext fun y=>bN _ _ _))))
theorem AI (g:D→D→Option D) (f2:ME) (t:D):k2 g f2 Qe (t,en)=W (f2 en) (k2b g t Qe):=rfl
theorem AH (g:D→D→Option D) (t u:D):k2b g t Qe (u,en)=W (g t u) (fR en Qe):=rfl
theorem AG (f g:ME):W (iV f g en) Qe=W (f en) (qL g Qe):=aA _ _ _
theorem AF (g:ME):qL g Qe (.bool true,en)=W (g en) Qe:=rfl
theorem AE (g:ME):qL g Qe (.bool false,en)=Qe (.bool false,en):=ay _ _
theorem AD (f g:ME):W (eOr f g en) Qe=W (f en) (kOr g Qe):=aA _ _ _
theorem AC (g:ME):kOr g Qe (.bool true,en)=Qe (.bool true,en):=ay _ _
theorem AB (g:ME):kOr g Qe (.bool false,en)=W (g en) Qe:=rfl
theorem AA:W (kB f en) Qe=W (f en) (Cq Qe):=aA _ _ _
theorem Az (x:Bool):Cq Qe (.bool x,en)=Qe (.bool (!x),en):=ay _ _
theorem Ay (f g:ME):W (eIf c f g en) Qe=W (c en) (kIf f g Qe):=aA _ _ _
theorem Ax:W (tV f en) Qb=W (f en) (kTV Qb):=aA _ _ _
theorem Aw (x:Bool):kTV Qb (.bool x,en)=Qb (x,en):=ay _ _
theorem Av (f g:MT):W (cZ f g en) Qb=W (f en) (ou g Qb):=aA _ _ _
theorem Au (g:MT):ou g Qb (true,en)=W (g en) Qb:=rfl
theorem At (g:MT):ou g Qb (false,en)=Qb (false,en):=ay _ _
theorem As (f g:MT):W (bOr f g en) Qb=W (f en) (qK g Qb):=aA _ _ _
theorem Ar (g:MT):qK g Qb (true,en)=Qb (true,en):=ay _ _
theorem Aq (g:MT):qK g Qb (false,en)=W (g en) Qb:=rfl
theorem Ap (f:MT):W (fV f en) Qb=W (f en) (xw Qb):=bN _ _ _
theorem Ao (x:Bool):xw Qb (x,en)=Qb (!x,en):=rfl
theorem An:W (cY en) Qb=Qb (true,en):=ay _ _
theorem Am:W (ah en) Qa=Qa ([],en):=ay _ _
theorem Al (r:MA):W (af f r en) Qa=W (f en) (kAC r Qa):=(aA _ _ _).trans (congrArg _ (funext fun z=>bN _ _ _))
theorem Ak (r:MA) (t:D):kAC r Qa (t,en)=W (r en) (qN t Qa):=rfl
theorem Aj (t:D) (as:List (D ⊕ Nat)):qN t Qa (as,en)=Qa (.inl t :: as,en):=rfl
theorem Ai (r:MA):W (aH i r en) Qa=W (gv en i) (kAS i r en Qa):=(aA _ _ _).trans (congrArg _ (funext fun z=>bN _ _ _))
theorem Ah (r:MA) (t:D):kAS i r en Qa t=W (r en) (qM i Qa):=rfl
theorem Ag (as:List (D ⊕ Nat)):qM i Qa (as,en)=Qa (.inr i :: as,en):=rfl
theorem Af:bz []=some []:=rfl
theorem Ae (t:D) (r:List (D ⊕ Nat)):W (bz (.inl t :: r)) Qt=W (bz r) (j2 t Qt):=bN _ _ _
theorem Ad (t:D):j2 t Qt ts=Qt (t :: ts):=rfl
theorem Ac:c9 [] en=some []:=rfl
theorem Ab (t:D) (r:List (D ⊕ Nat)):W (c9 (.inl t :: r) en) Qt=W (c9 r en) (j2 t Qt):=bN _ _ _
theorem Aa (r:List (D ⊕ Nat)):W (c9 (.inr i :: r) en) Qt=W (gv en i) (Cv r en Qt):=(aA _ _ _).trans (congrArg _ (funext fun z=>bN _ _ _))
theorem zZ (t:D) (r:List (D ⊕ Nat)):Cv r en Qt t=W (c9 r en) (j2 t Qt):=rfl
theorem zY (r:List (D ⊕ Nat)) (o:Option D) (outs:En):wb (.inr i :: r) (o :: outs) en=wb r outs (en.set i o):=rfl
theorem zX (t:D) (r:List (D ⊕ Nat)) (o:Option D) (outs:En):wb (.inl t :: r) (o :: outs) en=wb r outs en:=rfl
theorem zW (outs:En):wb [] outs en=en:=rfl
theorem zV (g:List D→Option D):W (eN g fa en) Qe=W (fa en) (kN g Qe):=(aA _ _ _).trans (congrArg _ (funext fun z=>(aA _ _ _).trans (congrArg _ (funext fun y=>bN _ _ _))))
theorem zU (g:List D→Option D) (as:List (D ⊕ Nat)):kN g Qe (as,en)=W (bz as) (kN2 g en Qe):=rfl
theorem zT (g:List D→Option D):kN2 g en Qe ts=W (g ts) (fR en Qe):=rfl
theorem zS:W (aG fa en) Qe=W (fa en) (Cr Qe):=(aA _ _ _).trans (congrArg _ (funext fun z=>aA _ _ _))
theorem zR (as:List (D ⊕ Nat)):Cr Qe (as,en)=W (bz as) (on en Qe):=rfl
theorem zQ:on en Qe ts=(ts.length≤sizeLine∧Qe (.list ts,en)):=fX _ _ _
theorem w6:W (cN fa en) Qe=W (fa en) (Cn Qe):=(aA _ _ _).trans (congrArg _ (funext fun z=>aA _ _ _))
theorem w4 (as:List (D ⊕ Nat)):Cn Qe (as,en)=W (bz as) (oi en Qe):=rfl
theorem wZ:oi en Qe ts=(ts.length≤sizeLine∧Qe (.tuple ts,en)):=fX _ _ _
theorem wY:(([]:List D).length≤sizeLine)=True:=eq_true (Nat.le_trans (by show 0≤100; decide) a8)
theorem wX (x0:D):(([x0]:List D).length≤sizeLine)=True:=eq_true (Nat.le_trans (by show 1≤100; decide) a8)
theorem wW (x0 x1:D):(([x0,x1]:List D).length≤sizeLine)=True:=eq_true (Nat.le_trans (by show 2≤100; decide) a8)
theorem wV (x0 x1 x2:D):(([x0,x1,x2]:List D).length≤sizeLine)=True:=eq_true (Nat.le_trans (by show 3≤100; decide) a8)
theorem wU (x0 x1 x2 x3:D):(([x0,x1,x2,x3]:List D).length≤sizeLine)=True:=eq_true (Nat.le_trans (by show 4≤100; decide) a8)
theorem wT (x0 x1 x2 x3 x4:D):(([x0,x1,x2,x3,x4]:List D).length≤sizeLine)=True:=eq_true (Nat.le_trans (by show 5≤100; decide) a8)
theorem wS (x0 x1 x2 x3 x4 x5:D):(([x0,x1,x2,x3,x4,x5]:List D).length≤sizeLine)=True:=eq_true (Nat.le_trans (by show 6≤100; decide) a8)
theorem wR (x0 x1 x2 x3 x4 x5 x6:D):(([x0,x1,x2,x3,x4,x5,x6]:List D).length≤sizeLine)=True:=eq_true (Nat.le_trans (by show 7≤100; decide) a8)
theorem wQ (x0 x1 x2 x3 x4 x5 x6 x7:D):(([x0,x1,x2,x3,x4,x5,x6,x7]:List D).length≤sizeLine)=True:=eq_true (Nat.le_trans (by show 8≤100; decide) a8)
theorem wP (x0 x1 x2 x3 x4 x5 x6 x7 x8:D):(([x0,x1,x2,x3,x4,x5,x6,x7,x8]:List D).length≤sizeLine)=True:=eq_true (Nat.le_trans (by show 9≤100; decide) a8)
theorem wO (x0 x1 x2 x3 x4 x5 x6 x7 x8 x9:D):(([x0,x1,x2,x3,x4,x5,x6,x7,x8,x9]:List D).length≤sizeLine)=True:=eq_true (Nat.le_trans (by show 10≤100; decide) a8)
theorem wN (F:List D→Option (D × En)):W (ax F fa en) Qe=W (fa en) (xv F Qe):=(aA _ _ _).trans (congrArg _ (funext fun z=>(aA _ _ _).trans (congrArg _ (funext fun y=>bN _ _ _))))
theorem wM (F:List D→Option (D × En)) (as:List (D ⊕ Nat)):xv F Qe (as,en)=W (c9 as en) (mz F as en Qe):=rfl
theorem wL (F:List D→Option (D × En)) (as:List (D ⊕ Nat)):mz F as en Qe ts=W (F ts) (my as en Qe):=rfl
theorem wK (as:List (D ⊕ Nat)) (t:D) (outs:En):my as en Qe (t,outs)=Qe (t,wb as outs en):=rfl
theorem wJ (q:Bool) (fi:MI) (js:List (Option Nat)):W (eLC q fi g c f js en) Qe=W (fi en) (kLC q g c f js Qe):=(aA _ _ _).trans (congrArg _ (funext fun z=>bN _ _ _))
theorem wI (q:Bool) (js:List (Option Nat)):kLC q g c f js Qe (ts,en)=W (lcF g c f ts [] (cq js en)) (oq q js en Qe):=rfl
theorem wH (js:List (Option Nat)) (us:List D) (ex:En):oq true js en Qe (us,ex)=Qe (.list us,en):=rfl
theorem wG (js:List (Option Nat)) (us:List D) (ex:En):oq false js en Qe (us,ex)=Qe (.list us,wbB js ex en):=rfl
theorem wF:cq [] en=[]:=rfl
theorem wE (j:Nat) (js:List (Option Nat)):cq (some j :: js) en=gv en j :: cq js en:=rfl
theorem wD (js:List (Option Nat)):cq (none :: js) en=none :: cq js en:=rfl
theorem wC (j:Nat) (js:List (Option Nat)) (o:Option D) (ex:En):wbB (some j :: js) (o :: ex) en=wbB js ex (en.set j o):=rfl
theorem wB (js:List (Option Nat)) (o:Option D) (ex:En):wbB (none :: js) (o :: ex) en=wbB js ex en:=rfl
theorem wA (ex:En):wbB [] ex en=en:=rfl
theorem wz:W (lcF g c f [] acc en) Ql=Ql (acc,en):=ay _ _
theorem wy:W (bb f en) Ql=W (f en) (oz Ql):=aA _ _ _
theorem wx:oz Ql (.list ts,en)=Ql (ts,en):=ay _ _
theorem ww:oz Ql (.tuple ts,en)=Ql (ts,en):=ay _ _
theorem wv (z:Str):oz Ql (.str z,en)=Ql (jd z,en):=ay _ _
theorem wu:W (cf fa en) Ql=W (fa en) (kR1 Ql):=aA _ _ _
theorem wt (j:Int):kR1 Ql ([.inl (.int j)],en)=((-(2 ^ 62)≤j∧j < 2 ^ 62)∧Ql (lU 0 j.toNat,en)):=fX _ _ _
theorem wq:W (iQ fa en) Ql=W (fa en) (kR2 Ql):=aA _ _ _
theorem wp (i j:Int):kR2 Ql ([.inl (.int i),.inl (.int j)],en)=((-(2 ^ 62)≤i∧i < 2 ^ 62∧-(2 ^ 62)≤j∧j < 2 ^ 62)∧Ql (lU i (j - i).toNat,en)):=fX _ _ _
theorem wo:W (jf fa en) Ql=W (fa en) (Cj Ql):=aA _ _ _
theorem wn (ts us:List D):Cj Ql ([.inl (.list ts),.inl (.list us)],en)=Ql (eB ts us,en):=ay _ _
theorem wm:W (jL i f en) Qe=W (gv en i) (xt i f en Qe):=(aA _ _ _).trans (congrArg _ (funext fun z=>aA _ _ _))
theorem wl (x:D):xt i f en Qe x=W (f en) (jX i Qe):=rfl
theorem wj (n:Int):jX i Qe (.int n,en)=W (gv en i) (pi n en Qe):=by unfold jX gv; cases h:(en[i]?).join with | none=>simp only [h,bu] | some x=>simp only [h,ay]; cases x <;> first | rfl | exact (ay _ _).symm | (rw [ay]; rfl) | (rw [ay]; exact bu _)
theorem wg (n:Int):pi n en Qe (.list ts)=W (atI ts n) (fR en Qe):=bN _ _ _
theorem wf:W (bP i f en) Qe=W (gv en i) (Cw i f en Qe):=by unfold gv bP; cases (en[i]?).join with | none=>rw [bu,bu] | some x=>cases x <;> first | rfl | exact (ay _ _).symm | (rw [ay]; rfl) | (rw [ay]; exact bu _)
theorem we:Cw i f en Qe (.list ts)=W (f en) (oy i Qe):=aA _ _ _
theorem wd (t:D):oy i Qe (t,en)=W (gv en i) (xx i t en Qe):=by unfold oy gv; cases h:(en[i]?).join with | none=>simp only [h,bu] | some x=>simp only [h,ay]; cases x <;> first | rfl | exact (ay _ _).symm | (rw [ay]; rfl) | (rw [ay]; exact bu _)
theorem wc (t:D):xx i t en Qe (.list ts)=(ts.length < sizeLine∧Qe (.none,en.set i (some (.list (ts++[t]))))):=fX _ _ _
theorem wa (Q:Option Int × En→Prop):W (b9 en) Q=Q (none,en):=ay _ _
theorem v9 (Q:Option Int × En→Prop):W (bR f en) Q=W (f en) (kOS Q):=aA _ _ _
theorem v8 (n:Int) (Q:Option Int × En→Prop):kOS Q (.int n,en)=Q (some n,en):=ay _ _
theorem v7 (g:D→Option Int→Option Int→Option D) (lo hi:MO):W (eSl g f lo hi en) Qe=W (f en) (kSl g lo hi Qe):=(aA _ _ _).trans (congrArg _ (funext fun z=>(aA _ _ _).trans (congrArg _ (funext fun y=>(aA _ _ _).trans (congrArg _ (funext fun y=>bN _ _ _))))))
theorem v6 (g:D→Option Int→Option Int→Option D) (lo hi:MO) (t:D):kSl g lo hi Qe (t,en)=W (lo en) (qH g t hi Qe):=rfl
theorem v5 (g:D→Option Int→Option Int→Option D) (hi:MO) (t:D) (a:Option Int):qH g t hi Qe (a,en)=W (hi en) (qG g t a Qe):=rfl
theorem v3 (g:D→Option Int→Option Int→Option D) (t:D) (a b:Option Int):qG g t a Qe (b,en)=W (g t a b) (fR en Qe):=rfl
theorem v1:W (bC i f en) Qe=W (gv en i) (kDg f i en Qe):=(aA _ _ _).trans (congrArg _ (funext fun z=>aA _ _ _))
theorem vZ (x:D):kDg f i en Qe x=W (f en) (ot i Qe):=rfl
theorem vY (q:D):ot i Qe (q,en)=W (gv en i) (EO q en Qe):=by unfold ot gv; cases h:(en[i]?).join with | none=>simp only [h,bu] | some x=>simp only [h,ay]; cases x <;> first | rfl | exact (ay _ _).symm | (rw [ay]; rfl) | (rw [ay]; exact bu _)
theorem vX (J:En→Prop):kIt J Qs (.nx en)=J en:=rfl
theorem vW (J:En→Prop):kIt J Qs (.ct en)=J en:=rfl
theorem vV (J:En→Prop) (t:D):kIt J Qs (.rt t en)=Qs (.rt t en):=rfl
theorem vU (b:MS) (J:En→Prop):kFg b J Qs en=W (b en) (kIt J Qs):=rfl
theorem vT (b:MS) (J:En→Prop):kWh b J Qs (true,en)=W (b en) (kIt J Qs):=rfl
theorem vS (b:MS) (J:En→Prop):kWh b J Qs (false,en)=Qs (.nx en):=rfl
theorem vR (us:List D) (J:List D→En→Prop):EM c f us J en=W (c en) (oo f us J):=rfl
theorem vQ (us:List D) (J:List D→En→Prop):oo f us J (true,en)=W (f en) (qJ us J):=rfl
theorem vP (us:List D) (J:List D→En→Prop):oo f us J (false,en)=J us en:=rfl
theorem vO (us:List D) (J:List D→En→Prop) (t:D):qJ us J (t,en)=J (us++[t]) en:=rfl
theorem vN (n:Nat) (dps:List Nat) (b:MS):W (fnF n dps b ts) Qe=W (b (ts.map some++List.replicate n none)) (kFn dps Qe):=aA _ _ _
theorem vM (dps:List Nat) (t:D):kFn dps Qe (.rt t en)=Qe (t,msk dps en):=ay _ _
theorem vL (dps:List Nat):kFn dps Qe (.nx en)=Qe (.none,msk dps en):=ay _ _
theorem vK (d:Nat) (ds:List Nat) (o:Option D):msk ((d+1) :: ds) (o :: en)=o :: msk ds en:=rfl
theorem vJ (ds:List Nat) (o:Option D):msk (0 :: ds) (o :: en)=none :: msk ds en:=rfl
theorem vI:msk [] en=[]:=rfl
theorem vH (t:D):List.map some (t :: ts)=some t :: List.map some ts:=rfl
theorem vG:List.map (some:D→Option D) []=[]:=rfl
theorem vF (a:Option D) (l m:En):(a :: l)++m=a :: (l++m):=rfl
theorem vE (m:En):([]:En)++m=m:=rfl
theorem vD (a:Option D):List.replicate 0 a=[]:=rfl
theorem vC (a:Option D) (n:Nat):List.replicate (n+1) a=a :: List.replicate n a:=rfl
theorem vB (a b:Int):aZ (.int a) (.int b)=some (.int (a+b)):=rfl
theorem vA (a b:Str):W (aZ (.str a) (.str b)) Qd=(a.length+b.length≤sizeLine∧Qd (.str (a++b))):=fX _ _ _
theorem vz (a b:Int):dw (.int a) (.int b)=some (.int (a - b)):=rfl
theorem vy (a b:Int):W (cy (.int a) (.int b)) Qd=(CMul a b∧Qd (.int (a * b))):=fX _ _ _
theorem vx (a b:Int):W (eW (.int a) (.int b)) Qd=(iB a b∧Qd (.int (a / b))):=fX _ _ _
theorem vw (a b:Int):W (bW (.int a) (.int b)) Qd=(0 < b∧Qd (.int (a % b))):=fX _ _ _
theorem vv (a b:Int):W (gp (.int a) (.int b)) Qd=(ga a b∧Qd (.int (a ^ b.toNat))):=fX _ _ _
theorem vt (a b:Int):ltI (.int a) (.int b)=some (.bool (decide (a < b))):=rfl
theorem vq (a b:Int):leI (.int a) (.int b)=some (.bool (decide (a≤b))):=rfl
theorem vp (a b:Int):gtI (.int a) (.int b)=some (.bool (decide (b < a))):=rfl
theorem vn (a b:Int):geI (.int a) (.int b)=some (.bool (decide (b≤a))):=rfl
theorem vm (a b:Int):eqD (.int a) (.int b)=some (.bool (decide (a=b))):=(Ds a b).trans (congrArg (fun q=>some (PyData.bool q)) (nG a b))
theorem vi (a b:Int):neD (.int a) (.int b)=some (.bool (!decide (a=b))):=(Cd a b).trans (congrArg (fun q=>some (PyData.bool (!q))) (nG a b))
theorem vh:isN .none .none=some (.bool true):=rfl
theorem vg:dX .none .none=some (.bool false):=rfl
theorem vf (x:Int):isN (.int x) .none=some (.bool false):=rfl
theorem ve (x:Int):dX (.int x) .none=some (.bool true):=rfl
theorem vd (x:Bool):isN (.bool x) .none=some (.bool false):=rfl
theorem vc (x:Bool):dX (.bool x) .none=some (.bool true):=rfl
theorem u9 (x:Str):isN (.str x) .none=some (.bool false):=rfl
theorem u8 (x:Str):dX (.str x) .none=some (.bool true):=rfl
theorem u7 (x:List D):isN (.list x) .none=some (.bool false):=rfl
theorem u6 (x:List D):dX (.list x) .none=some (.bool true):=rfl
theorem u5 (x:List D):isN (.tuple x) .none=some (.bool false):=rfl
theorem u4 (x:List D):dX (.tuple x) .none=some (.bool true):=rfl
theorem u3 (x:List (D × D)):isN (.dict x) .none=some (.bool false):=rfl
theorem u0 (x:List (D × D)):dX (.dict x) .none=some (.bool true):=rfl
theorem uZ:aJ "int" (.none)=some (.bool false):=congrArg (fun b=>some (PyData.bool b)) (show aT "NoneType" "int"=false by decide)
theorem uY:aJ "bool" (.none)=some (.bool false):=congrArg (fun b=>some (PyData.bool b)) (show aT "NoneType" "bool"=false by decide)
theorem uX:aJ "str" (.none)=some (.bool false):=congrArg (fun b=>some (PyData.bool b)) (show aT "NoneType" "str"=false by decide)
theorem uW:aJ "list" (.none)=some (.bool false):=congrArg (fun b=>some (PyData.bool b)) (show aT "NoneType" "list"=false by decide)
theorem uV:aJ "tuple" (.none)=some (.bool false):=congrArg (fun b=>some (PyData.bool b)) (show aT "NoneType" "tuple"=false by decide)
theorem uU:aJ "dict" (.none)=some (.bool false):=congrArg (fun b=>some (PyData.bool b)) (show aT "NoneType" "dict"=false by decide)
theorem uT (x:Int):aJ "int" (.int x)=some (.bool true):=congrArg (fun b=>some (PyData.bool b)) (show aT "int" "int"=true by decide)
theorem uS (x:Int):aJ "bool" (.int x)=some (.bool false):=congrArg (fun b=>some (PyData.bool b)) (show aT "int" "bool"=false by decide)
theorem uR (x:Int):aJ "str" (.int x)=some (.bool false):=congrArg (fun b=>some (PyData.bool b)) (show aT "int" "str"=false by decide)
theorem uQ (x:Int):aJ "list" (.int x)=some (.bool false):=congrArg (fun b=>some (PyData.bool b)) (show aT "int" "list"=false by decide)
theorem uP (x:Int):aJ "tuple" (.int x)=some (.bool false):=congrArg (fun b=>some (PyData.bool b)) (show aT "int" "tuple"=false by decide)
theorem uO (x:Int):aJ "dict" (.int x)=some (.bool false):=congrArg (fun b=>some (PyData.bool b)) (show aT "int" "dict"=false by decide)
theorem uN (x:Bool):aJ "int" (.bool x)=some (.bool true):=congrArg (fun b=>some (PyData.bool b)) (show aT "bool" "int"=true by decide)
theorem uM (x:Bool):aJ "bool" (.bool x)=some (.bool true):=congrArg (fun b=>some (PyData.bool b)) (show aT "bool" "bool"=true by decide)
theorem uL (x:Bool):aJ "str" (.bool x)=some (.bool false):=congrArg (fun b=>some (PyData.bool b)) (show aT "bool" "str"=false by decide)
theorem uK (x:Bool):aJ "list" (.bool x)=some (.bool false):=congrArg (fun b=>some (PyData.bool b)) (show aT "bool" "list"=false by decide)
theorem uJ (x:Bool):aJ "tuple" (.bool x)=some (.bool false):=congrArg (fun b=>some (PyData.bool b)) (show aT "bool" "tuple"=false by decide)
theorem uI (x:Bool):aJ "dict" (.bool x)=some (.bool false):=congrArg (fun b=>some (PyData.bool b)) (show aT "bool" "dict"=false by decide)
theorem uH (x:Str):aJ "int" (.str x)=some (.bool false):=congrArg (fun b=>some (PyData.bool b)) (show aT "str" "int"=false by decide)
theorem uG (x:Str):aJ "bool" (.str x)=some (.bool false):=congrArg (fun b=>some (PyData.bool b)) (show aT "str" "bool"=false by decide)
theorem uF (x:Str):aJ "str" (.str x)=some (.bool true):=congrArg (fun b=>some (PyData.bool b)) (show aT "str" "str"=true by decide)
theorem uE (x:Str):aJ "list" (.str x)=some (.bool false):=congrArg (fun b=>some (PyData.bool b)) (show aT "str" "list"=false by decide)
theorem uD (x:Str):aJ "tuple" (.str x)=some (.bool false):=congrArg (fun b=>some (PyData.bool b)) (show aT "str" "tuple"=false by decide)
theorem uC (x:Str):aJ "dict" (.str x)=some (.bool false):=congrArg (fun b=>some (PyData.bool b)) (show aT "str" "dict"=false by decide)
theorem uB (x:List D):aJ "int" (.list x)=some (.bool false):=congrArg (fun b=>some (PyData.bool b)) (show aT "list" "int"=false by decide)
theorem uA (x:List D):aJ "bool" (.list x)=some (.bool false):=congrArg (fun b=>some (PyData.bool b)) (show aT "list" "bool"=false by decide)
theorem uz (x:List D):aJ "str" (.list x)=some (.bool false):=congrArg (fun b=>some (PyData.bool b)) (show aT "list" "str"=false by decide)
theorem uy (x:List D):aJ "list" (.list x)=some (.bool true):=congrArg (fun b=>some (PyData.bool b)) (show aT "list" "list"=true by decide)
theorem ux (x:List D):aJ "tuple" (.list x)=some (.bool false):=congrArg (fun b=>some (PyData.bool b)) (show aT "list" "tuple"=false by decide)
theorem uw (x:List D):aJ "dict" (.list x)=some (.bool false):=congrArg (fun b=>some (PyData.bool b)) (show aT "list" "dict"=false by decide)
theorem uv (x:List D):aJ "int" (.tuple x)=some (.bool false):=congrArg (fun b=>some (PyData.bool b)) (show aT "tuple" "int"=false by decide)
theorem uu (x:List D):aJ "bool" (.tuple x)=some (.bool false):=congrArg (fun b=>some (PyData.bool b)) (show aT "tuple" "bool"=false by decide)
theorem ut (x:List D):aJ "str" (.tuple x)=some (.bool false):=congrArg (fun b=>some (PyData.bool b)) (show aT "tuple" "str"=false by decide)
theorem ur (x:List D):aJ "list" (.tuple x)=some (.bool false):=congrArg (fun b=>some (PyData.bool b)) (show aT "tuple" "list"=false by decide)
theorem uq (x:List D):aJ "tuple" (.tuple x)=some (.bool true):=congrArg (fun b=>some (PyData.bool b)) (show aT "tuple" "tuple"=true by decide)
theorem up (x:List D):aJ "dict" (.tuple x)=some (.bool false):=congrArg (fun b=>some (PyData.bool b)) (show aT "tuple" "dict"=false by decide)
theorem uo (x:List (D × D)):aJ "int" (.dict x)=some (.bool false):=congrArg (fun b=>some (PyData.bool b)) (show aT "dict" "int"=false by decide)
theorem um (x:List (D × D)):aJ "bool" (.dict x)=some (.bool false):=congrArg (fun b=>some (PyData.bool b)) (show aT "dict" "bool"=false by decide)
theorem uk (x:List (D × D)):aJ "str" (.dict x)=some (.bool false):=congrArg (fun b=>some (PyData.bool b)) (show aT "dict" "str"=false by decide)
theorem uj (x:List (D × D)):aJ "list" (.dict x)=some (.bool false):=congrArg (fun b=>some (PyData.bool b)) (show aT "dict" "list"=false by decide)
theorem ui (x:List (D × D)):aJ "tuple" (.dict x)=some (.bool false):=congrArg (fun b=>some (PyData.bool b)) (show aT "dict" "tuple"=false by decide)
theorem uh (x:List (D × D)):aJ "dict" (.dict x)=some (.bool true):=congrArg (fun b=>some (PyData.bool b)) (show aT "dict" "dict"=true by decide)
theorem ug:((([]:List D).length:Nat):Int)=0:=rfl
theorem uf (x0:D):((([x0]:List D).length:Nat):Int)=1:=rfl
theorem ue (x0 x1:D):((([x0,x1]:List D).length:Nat):Int)=2:=rfl
theorem ud (x0 x1 x2:D):((([x0,x1,x2]:List D).length:Nat):Int)=3:=rfl
theorem uc (x0 x1 x2 x3:D):((([x0,x1,x2,x3]:List D).length:Nat):Int)=4:=rfl
theorem ub (x0 x1 x2 x3 x4:D):((([x0,x1,x2,x3,x4]:List D).length:Nat):Int)=5:=rfl
theorem ua (x0 x1 x2 x3 x4 x5:D):((([x0,x1,x2,x3,x4,x5]:List D).length:Nat):Int)=6:=rfl
theorem t9 (x0 x1 x2 x3 x4 x5 x6:D):((([x0,x1,x2,x3,x4,x5,x6]:List D).length:Nat):Int)=7:=rfl
theorem t8 (x0 x1 x2 x3 x4 x5 x6 x7:D):((([x0,x1,x2,x3,x4,x5,x6,x7]:List D).length:Nat):Int)=8:=rfl
theorem t7 (x0 x1 x2 x3 x4 x5 x6 x7 x8:D):((([x0,x1,x2,x3,x4,x5,x6,x7,x8]:List D).length:Nat):Int)=9:=rfl
theorem t5 (x0 x1 x2 x3 x4 x5 x6 x7 x8 x9:D):((([x0,x1,x2,x3,x4,x5,x6,x7,x8,x9]:List D).length:Nat):Int)=10:=rfl
theorem t4 (α β:Type) (f:α→β) (l:List α):(l.map f).length=l.length:=List.length_map f
theorem tZ:bd [.list ts]=some (.int ts.length):=rfl
theorem tY:bd [.tuple ts]=some (.int ts.length):=rfl
theorem tX (z:Str):W (bd [.str z]) Qd=(z.length≤sizeLine∧Qd (.int z.length)):=oM _ _ _
theorem tW (a:Int):ir [.int a]=some (.int (if a < 0 then -a else a)):=rfl
theorem tU (a:Int):gw [.int a]=some (.int a):=rfl
theorem tT:gw [.bool true]=some (.int 1):=rfl
theorem tS:gw [.bool false]=some (.int 0):=rfl
theorem tR (a:Int):ig (.int a)=some (.int (-a)):=rfl
theorem tQ:eT [.list ts]=some (.list ts):=rfl
theorem tO:jy [.list ts]=some (.tuple ts):=rfl
theorem tN (n:Int):ixA (.list ts) (.int n)=atI ts n:=rfl
theorem tM:eT [.tuple ts]=some (.list ts):=rfl
theorem tL:jy [.tuple ts]=some (.tuple ts):=rfl
theorem tK (n:Int):ixA (.tuple ts) (.int n)=atI ts n:=rfl
theorem tJ (ts us:List D):W (bE (.list ts) (.list us)) Qd=(ts.length+us.length≤sizeLine∧Qd (.list (ts++us))):=fX _ _ _
theorem tI (lo hi:Option Int):cn (.list ts) lo hi=some (.list (bX ts lo hi)):=rfl
theorem tH:atI ts 0=ts[0]?:=aY ts _
theorem tG:atI ts 1=ts[1]?:=aY ts _
theorem tE:atI ts 2=ts[2]?:=aY ts _
theorem tD:atI ts 3=ts[3]?:=aY ts _
theorem tz:atI ts 4=ts[4]?:=aY ts _
theorem tw:atI ts 5=ts[5]?:=aY ts _
theorem tu:atI ts 6=ts[6]?:=aY ts _
theorem tq:atI ts 7=ts[7]?:=aY ts _
theorem tj:atI ts 8=ts[8]?:=aY ts _
theorem tf:atI ts 9=ts[9]?:=aY ts _
theorem s0:atI ts 10=ts[10]?:=aY ts _
theorem sZ:atI ts 11=ts[11]?:=aY ts _
theorem sY:atI ts 12=ts[12]?:=aY ts _
theorem sX:atI ts 13=ts[13]?:=aY ts _
theorem sW:atI ts 14=ts[14]?:=aY ts _
theorem sV:atI ts 15=ts[15]?:=aY ts _
theorem sU:atI ts 16=ts[16]?:=aY ts _
theorem sT:atI ts 17=ts[17]?:=aY ts _
theorem sS:atI ts 18=ts[18]?:=aY ts _
theorem sR:atI ts 19=ts[19]?:=aY ts _
theorem sQ:atI ts 20=ts[20]?:=aY ts _
theorem sP (t:D):(t :: ts)[0]?=some t:=rfl
theorem sO (t:D):(t :: ts)[i+1]?=ts[i]?:=List.getElem?_cons_succ
theorem sN:jC (.list ts) (.int (-1))=some (.list ts.reverse):=rfl
theorem sM (a b:Bool):eqD (.bool a) (.bool b)=some (.bool (a == b)):=zt a b
theorem sL (a b:Bool):neD (.bool a) (.bool b)=some (.bool (!(a == b))):=yj a b
theorem sK (a b:Str):eqD (.str a) (.str b)=some (.bool (decide (a=b))):=Dq a b
theorem sJ (a b:Str):neD (.str a) (.str b)=some (.bool (!decide (a=b))):=Cb a b
theorem sI:neD (.list []) (.list [])=some (.bool false):=Cc
theorem sH:eqD (.list []) (.list [])=some (.bool true):=Dr
theorem sG (a b:Bool):isB (.bool a) (.bool b)=some (.bool (a == b)):=rfl
theorem sF (a:Bool):(a == a)=true:=beq_self_eq_true a
theorem sE:(true == false)=false:=rfl
theorem sD:(false == true)=false:=rfl
theorem sC (t:D) (ts acc:List D):W (lcF g c f (t :: ts) acc en) Ql=W (g t en) (kL1 g c f ts acc Ql):=by unfold lcF; rw [aA]; congr 1; funext z; rw [aA]; rfl
theorem sB (ts acc:List D):kL1 g c f ts acc Ql en=W (c en) (kL2 g c f ts acc Ql):=rfl
theorem sA (ts acc:List D):kL2 g c f ts acc Ql (true,en)=W (f en) (kL3 g c f ts acc Ql):=aA _ _ _
theorem sy (ts acc:List D):kL2 g c f ts acc Ql (false,en)=W (lcF g c f ts acc en) Ql:=rfl
theorem sx (ts acc:List D) (t:D):kL3 g c f ts acc Ql (t,en)=(acc.length < sizeLine∧W (lcF g c f ts (acc++[t]) en) Ql):=ED _ _ _
theorem sv (m:List D):([]++m:List D)=m:=rfl
theorem su (x:D) (l m:List D):((x :: l)++m:List D)=x :: (l++m):=rfl
theorem ss:(([]:List D).length < sizeLine)=True:=eq_true (Nat.lt_of_lt_of_le (by show 0 < 100; decide) a8)
theorem sr (x0:D):(([x0]:List D).length < sizeLine)=True:=eq_true (Nat.lt_of_lt_of_le (by show 1 < 100; decide) a8)
theorem so (x0 x1:D):(([x0,x1]:List D).length < sizeLine)=True:=eq_true (Nat.lt_of_lt_of_le (by show 2 < 100; decide) a8)
theorem sn (x0 x1 x2:D):(([x0,x1,x2]:List D).length < sizeLine)=True:=eq_true (Nat.lt_of_lt_of_le (by show 3 < 100; decide) a8)
theorem sm (x0 x1 x2 x3:D):(([x0,x1,x2,x3]:List D).length < sizeLine)=True:=eq_true (Nat.lt_of_lt_of_le (by show 4 < 100; decide) a8)
theorem sk (x0 x1 x2 x3 x4:D):(([x0,x1,x2,x3,x4]:List D).length < sizeLine)=True:=eq_true (Nat.lt_of_lt_of_le (by show 5 < 100; decide) a8)
theorem sj (x0 x1 x2 x3 x4 x5:D):(([x0,x1,x2,x3,x4,x5]:List D).length < sizeLine)=True:=eq_true (Nat.lt_of_lt_of_le (by show 6 < 100; decide) a8)
theorem si (x0 x1 x2 x3 x4 x5 x6:D):(([x0,x1,x2,x3,x4,x5,x6]:List D).length < sizeLine)=True:=eq_true (Nat.lt_of_lt_of_le (by show 7 < 100; decide) a8)
theorem sg (x0 x1 x2 x3 x4 x5 x6 x7:D):(([x0,x1,x2,x3,x4,x5,x6,x7]:List D).length < sizeLine)=True:=eq_true (Nat.lt_of_lt_of_le (by show 8 < 100; decide) a8)
theorem sf (x0 x1 x2 x3 x4 x5 x6 x7 x8:D):(([x0,x1,x2,x3,x4,x5,x6,x7,x8]:List D).length < sizeLine)=True:=eq_true (Nat.lt_of_lt_of_le (by show 9 < 100; decide) a8)
theorem se (x0 x1 x2 x3 x4 x5 x6 x7 x8 x9:D):(([x0,x1,x2,x3,x4,x5,x6,x7,x8,x9]:List D).length < sizeLine)=True:=eq_true (Nat.lt_of_lt_of_le (by show 10 < 100; decide) a8)
theorem r9:iZ [.list []]=some (.bool true):=rfl
theorem r8 (a:Bool):iZ [.list [.bool a]]=some (.bool a):=by cases a <;> rfl
theorem r6 (a b:Bool):iZ [.list [.bool a,.bool b]]=some (.bool (a && b)):=by cases a <;> cases b <;> rfl
theorem rZ:iJ [.list []]=some (.int 0):=rfl
theorem rY (a:Int):iJ [.list [.int a]]=some (.int a):=by show some (PyData.int (a+0))=_; rw [Int.add_zero]
theorem rX (a b:Int):iJ [.list [.int a,.int b]]=some (.int (a+b)):=by show some (PyData.int (a+(b+0)))=_; rw [Int.add_zero]
theorem rW (x:D) (l:List D):bX (x :: l) (some 1) none=l:=zw x l
theorem rV (x:D) (l:List D):(HT.sIx (x :: l).length 0 (some 1)=0)=False:=EC x l
theorem rT (p:Prop):(False∧p)=False:=false_and p
theorem rS:(¬ False)=True:=not_false_eq_true
theorem rR:(!true)=false:=rfl
theorem rQ:(!false)=true:=rfl
theorem rP (p:Prop):(True∧p)=p:=true_and p
theorem rO (p:Prop):(p∧True)=p:=and_true p
theorem rN (_:Decidable True):decide True=true:=decide_eq_true trivial
theorem rM (_:Decidable False):decide False=false:=decide_eq_false (fun z=>z)
theorem rL (α:Sort 1) (a:α):(a=a)=True:=eq_self a
end
theorem zP:type_of% ws0∧type_of% ws1∧type_of% ws2∧type_of% ws3∧type_of% ws4∧type_of% ws5∧type_of% ws6∧type_of% ws7∧type_of% ws8∧type_of% ws9∧type_of% Bu∧type_of% Bt∧type_of% Bs∧type_of% Br∧type_of% Bq∧type_of% Bp∧type_of% Bo∧type_of% Bn∧type_of% Bm∧type_of% Bk∧type_of% Bj∧type_of% Bi∧type_of% Bh∧type_of% Bg∧type_of% Bf∧type_of% Be∧type_of% Bd∧type_of% Bc∧type_of% Bb∧type_of% Ba∧type_of% A9∧type_of% A8∧type_of% A7∧type_of% A6∧type_of% A5∧type_of% A4∧type_of% A3∧type_of% A2∧type_of% A1∧type_of% A0:=⟨ws0,ws1,ws2,ws3,ws4,ws5,ws6,ws7,ws8,ws9,Bu,Bt,Bs,Br,Bq,Bp,Bo,Bn,Bm,Bk,Bj,Bi,Bh,Bg,Bf,Be,Bd,Bc,Bb,Ba,A9,A8,A7,A6,A5,A4,A3,A2,A1,A0⟩
theorem zO:type_of% AZ∧type_of% AY∧type_of% AX∧type_of% AW∧type_of% AV∧type_of% AU∧type_of% AT∧type_of% AR∧type_of% AQ∧type_of% AO∧type_of% AN∧type_of% AM∧type_of% AL∧type_of% AK∧type_of% AJ∧type_of% AI∧type_of% AH∧type_of% AG∧type_of% AF∧type_of% AE∧type_of% AD∧type_of% AC∧type_of% AB∧type_of% AA∧type_of% Az∧type_of% Ay∧type_of% Ax∧type_of% Aw∧type_of% Av∧type_of% Au∧type_of% At∧type_of% As∧type_of% Ar∧type_of% Aq∧type_of% Ap∧type_of% Ao∧type_of% An∧type_of% Am∧type_of% Al∧type_of% Ak:=⟨AZ,AY,AX,AW,AV,AU,AT,AR,AQ,AO,AN,AM,AL,AK,AJ,AI,AH,AG,AF,AE,AD,AC,AB,AA,Az,Ay,Ax,Aw,Av,Au,At,As,Ar,Aq,Ap,Ao,An,Am,Al,Ak⟩
theorem zN:type_of% Aj∧type_of% Ai∧type_of% Ah∧type_of% Ag∧type_of% Af∧type_of% Ae∧type_of% Ad∧type_of% Ac∧type_of% Ab∧type_of% Aa∧type_of% zZ∧type_of% zY∧type_of% zX∧type_of% zW∧type_of% zV∧type_of% zU∧type_of% zT∧type_of% zS∧type_of% zR∧type_of% zQ∧type_of% w6∧type_of% w4∧type_of% wZ∧type_of% wY∧type_of% wX∧type_of% wW∧type_of% wV∧type_of% wU∧type_of% wT∧type_of% wS∧type_of% wR∧type_of% wQ∧type_of% wP∧type_of% wO∧type_of% wN∧type_of% wM∧type_of% wL∧type_of% wK∧type_of% wJ∧type_of% wI:=⟨Aj,Ai,Ah,Ag,Af,Ae,Ad,Ac,Ab,Aa,zZ,zY,zX,zW,zV,zU,zT,zS,zR,zQ,w6,w4,wZ,wY,wX,wW,wV,wU,wT,wS,wR,wQ,wP,wO,wN,wM,wL,wK,wJ,wI⟩
theorem zM:type_of% wH∧type_of% wG∧type_of% wF∧type_of% wE∧type_of% wD∧type_of% wC∧type_of% wB∧type_of% wA∧type_of% wz∧type_of% wy∧type_of% wx∧type_of% ww∧type_of% wv∧type_of% wu∧type_of% wt∧type_of% wq∧type_of% wp∧type_of% wo∧type_of% wn∧type_of% wm∧type_of% wl∧type_of% wj∧type_of% wg∧type_of% wf∧type_of% we∧type_of% wd∧type_of% wc∧type_of% wa∧type_of% v9∧type_of% v8∧type_of% v7∧type_of% v6∧type_of% v5∧type_of% v3∧type_of% v1∧type_of% vZ∧type_of% vY∧type_of% vX∧type_of% vW∧type_of% vV:=⟨wH,wG,wF,wE,wD,wC,wB,wA,wz,wy,wx,ww,wv,wu,wt,wq,wp,wo,wn,wm,wl,wj,wg,wf,we,wd,wc,wa,v9,v8,v7,v6,v5,v3,v1,vZ,vY,vX,vW,vV⟩
theorem zK:type_of% vU∧type_of% vT∧type_of% vS∧type_of% vR∧type_of% vQ∧type_of% vP∧type_of% vO∧type_of% vN∧type_of% vM∧type_of% vL∧type_of% vK∧type_of% vJ∧type_of% vI∧type_of% vH∧type_of% vG∧type_of% vF∧type_of% vE∧type_of% vD∧type_of% vC∧type_of% vB∧type_of% vA∧type_of% vz∧type_of% vy∧type_of% vx∧type_of% vw∧type_of% vv∧type_of% vt∧type_of% vq∧type_of% vp∧type_of% vn∧type_of% vm∧type_of% vi∧type_of% vh∧type_of% vg∧type_of% vf∧type_of% ve∧type_of% vd∧type_of% vc∧type_of% u9∧type_of% u8:=⟨vU,vT,vS,vR,vQ,vP,vO,vN,vM,vL,vK,vJ,vI,vH,vG,vF,vE,vD,vC,vB,vA,vz,vy,vx,vw,vv,vt,vq,vp,vn,vm,vi,vh,vg,vf,ve,vd,vc,u9,u8⟩
theorem zJ:type_of% u7∧type_of% u6∧type_of% u5∧type_of% u4∧type_of% u3∧type_of% u0∧type_of% uZ∧type_of% uY∧type_of% uX∧type_of% uW∧type_of% uV∧type_of% uU∧type_of% uT∧type_of% uS∧type_of% uR∧type_of% uQ∧type_of% uP∧type_of% uO∧type_of% uN∧type_of% uM∧type_of% uL∧type_of% uK∧type_of% uJ∧type_of% uI∧type_of% uH∧type_of% uG∧type_of% uF∧type_of% uE∧type_of% uD∧type_of% uC∧type_of% uB∧type_of% uA∧type_of% uz∧type_of% uy∧type_of% ux∧type_of% uw∧type_of% uv∧type_of% uu∧type_of% ut∧type_of% ur:=⟨u7,u6,u5,u4,u3,u0,uZ,uY,uX,uW,uV,uU,uT,uS,uR,uQ,uP,uO,uN,uM,uL,uK,uJ,uI,uH,uG,uF,uE,uD,uC,uB,uA,uz,uy,ux,uw,uv,uu,ut,ur⟩
theorem zI:type_of% uq∧type_of% up∧type_of% uo∧type_of% um∧type_of% uk∧type_of% uj∧type_of% ui∧type_of% uh∧type_of% ug∧type_of% uf∧type_of% ue∧type_of% ud∧type_of% uc∧type_of% ub∧type_of% ua∧type_of% t9∧type_of% t8∧type_of% t7∧type_of% t5∧type_of% t4∧type_of% tZ∧type_of% tY∧type_of% tX∧type_of% tW∧type_of% tU∧type_of% tT∧type_of% tS∧type_of% tR∧type_of% tQ∧type_of% tO∧type_of% tN∧type_of% tM∧type_of% tL∧type_of% tK∧type_of% tJ∧type_of% tI∧type_of% tH∧type_of% tG∧type_of% tE∧type_of% tD:=⟨uq,up,uo,um,uk,uj,ui,uh,ug,uf,ue,ud,uc,ub,ua,t9,t8,t7,t5,t4,tZ,tY,tX,tW,tU,tT,tS,tR,tQ,tO,tN,tM,tL,tK,tJ,tI,tH,tG,tE,tD⟩
theorem zH:type_of% tz∧type_of% tw∧type_of% tu∧type_of% tq∧type_of% tj∧type_of% tf∧type_of% s0∧type_of% sZ∧type_of% sY∧type_of% sX∧type_of% sW∧type_of% sV∧type_of% sU∧type_of% sT∧type_of% sS∧type_of% sR∧type_of% sQ∧type_of% sP∧type_of% sO∧type_of% sN∧type_of% sM∧type_of% sL∧type_of% sK∧type_of% sJ∧type_of% sI∧type_of% sH∧type_of% sG∧type_of% sF∧type_of% sE∧type_of% sD∧type_of% sC∧type_of% sB∧type_of% sA∧type_of% sy∧type_of% sx∧type_of% sv∧type_of% su∧type_of% ss∧type_of% sr∧type_of% so:=⟨tz,tw,tu,tq,tj,tf,s0,sZ,sY,sX,sW,sV,sU,sT,sS,sR,sQ,sP,sO,sN,sM,sL,sK,sJ,sI,sH,sG,sF,sE,sD,sC,sB,sA,sy,sx,sv,su,ss,sr,so⟩
theorem zG:type_of% sn∧type_of% sm∧type_of% sk∧type_of% sj∧type_of% si∧type_of% sg∧type_of% sf∧type_of% se∧type_of% r9∧type_of% r8∧type_of% r6∧type_of% rZ∧type_of% rY∧type_of% rX∧type_of% rW∧type_of% rV∧type_of% rT∧type_of% rS∧type_of% rR∧type_of% rQ∧type_of% rP∧type_of% rO∧type_of% rN∧type_of% rM∧type_of% rL:=⟨sn,sm,sk,sj,si,sg,sf,se,r9,r8,r6,rZ,rY,rX,rW,rV,rT,rS,rR,rQ,rP,rO,rN,rM,rL⟩
theorem ws:type_of% zP∧type_of% zO∧type_of% zN∧type_of% zM∧type_of% zK∧type_of% zJ∧type_of% zI∧type_of% zH∧type_of% zG:=⟨zP,zO,zN,zM,zK,zJ,zI,zH,zG⟩
end L2
namespace L2
open PySem PySem.Spec PyProof.Rows
theorem ki {g:MG} {b:MS} {ts:List D} {en:En} {Q:Fl→Prop} (I:Nat→En→Prop) (h0:I 0 en)
  (hs:∀ i t en,ts[i]?=some t→I i en→W (g t en) (kFg b (I (i+1)) Q)) (hq:∀ en,I ts.length en→Q (.nx en)):W (bS g b ts en) Q:=by
 suffices ∀ (us:List D) (i:Nat) (en:En),ts.drop i=us→i≤ts.length→I i en→W (bS g b us en) Q from this ts 0 en rfl (Nat.zero_le _) h0
 intro us
 induction us with
 | nil =>
  intro i en hu hi h
  have:ts.length - i=0:=by rw [← List.length_drop,hu]; rfl
  simp only [ws]
  exact hq en (by rw [show ts.length=i by omega]; exact h)
 | cons t us ih =>
  intro i en hu hi h
  have ht:ts[i]?=some t:=by
   have:(ts.drop i)[0]?=some t:=by rw [hu]; rfl
   rw [List.getElem?_drop] at this
   exact this
  have hl:i < ts.length:=(List.getElem?_eq_some_iff.mp ht).1
  have hd:ts.drop (i+1)=us:=by rw [← List.drop_drop,hu]; rfl
  simp only [ws]
  refine (hs i t en ht h).use fun en1 h1=>?_
  simp only [ws] at h1 ⊢
  refine h1.use fun fl h2=>?_
  cases fl with
  | nx e=>simp only [ws] at h2 ⊢; exact ih (i+1) e hd hl h2
  | ct e=>simp only [ws] at h2 ⊢; exact ih (i+1) e hd hl h2
  | rt t e=>simp only [ws] at h2 ⊢; exact h2
theorem nN {c:MT} {b:MS} {en:En} {Q:Fl→Prop} (I:Nat→En→Prop) (hs:∀ n en,I n en→W (c en) (kWh b (fun e=>∃ m,m < n∧I m e) Q)) {n:Nat} (h0:I n en):W (cw c b en) Q:=by
 induction n using Nat.strongRecOn generalizing en with
 | _ n ih =>
  obtain ⟨⟨x,en1⟩,e1,h1⟩:=(hs n en h0).ex
  cases x with
  | false=>simp only [ws] at h1; exact W.of (m3 e1) h1
  | true =>
   simp only [ws] at h1
   obtain ⟨fl,e2,h2⟩:=h1.ex
   cases fl with
   | nx e =>
    obtain ⟨m,hm,hi⟩:∃ m,m < n∧I m e:=h2
    obtain ⟨fl,e3,h3⟩:=(ih m hm hi).ex
    exact W.of (m4 e1 e2 e3) h3
   | ct e =>
    obtain ⟨m,hm,hi⟩:∃ m,m < n∧I m e:=h2
    obtain ⟨fl,e3,h3⟩:=(ih m hm hi).ex
    obtain ⟨k,h4⟩:=gm e3
    refine W.of (gf (n:=k+1) ?_) h3
    unfold whN
    rw [e1]
    show (b en1).bind _=_
    rw [e2]
    exact h4
   | rt t e =>
    refine W.of (gf (n:=1) ?_) (show Q (.rt t e) from h2)
    unfold whN
    rw [e1]
    show (b en1).bind _=_
    rw [e2]
    rfl
theorem dB {f:ME} {ts:List D} {o:Option D} {rest:En} {Q:List D × En→Prop} (F:D→D) (hz:ts.length≤sizeLine) (hf:∀ t∈ts,W (f (some t :: rest)) (fun r=>r=(F t,some t :: rest))) (hq:∀ o',Q (ts.map F,o' :: rest)):W (lcF (gN 0) cY f ts [] (o :: rest)) Q:=by
 obtain ⟨o',e⟩:=je (f:=f) (F:=F) (rest:=rest) ts [] o (fun t ht=>by
  obtain ⟨r,e,h⟩:=(hf t ht).ex
  rw [e,h]) (by simpa using hz)
 exact W.of e (hq o')
theorem qa {c:MT} {f:ME} {ts:List D} {o:Option D} {rest:En} {Q:List D × En→Prop} (p:D→Bool) (F:D→D) (hz:ts.length≤sizeLine) (hc:∀ t∈ts,W (c (some t :: rest)) (fun r=>r=(p t,some t :: rest))) (hf:∀ t∈ts,p t=true→W (f (some t :: rest)) (fun r=>r=(F t,some t :: rest))) (hq:∀ o',Q ((ts.filter p).map F,o' :: rest)):W (lcF (gN 0) c f ts [] (o :: rest)) Q:=by
 obtain ⟨o',e⟩:=dY (c:=c) (f:=f) (p:=p) (F:=F) (rest:=rest) ts [] o (fun t ht=>by
  obtain ⟨r,e,h⟩:=(hc t ht).ex
  rw [e,h]) (fun t ht hp=>by
  obtain ⟨r,e,h⟩:=(hf t ht hp).ex
  rw [e,h]) (by simpa using hz)
 exact W.of e (hq o')
theorem DE {g:MG} {b:MS} {ts:List D} {en:En} {Q:Fl→Prop} (J:En→Prop) (h0:J en) (hs:∀ t∈ts,∀ en,J en→W (g t en) (kFg b J Q)) (hq:∀ en,J en→Q (.nx en)):W (bS g b ts en) Q :=
 ki (fun _=>J) h0 (fun _ t en ht hj=>hs t (List.mem_of_getElem? ht) en hj) hq
theorem sz {n:Nat} (h:n≤1000):n≤sizeLine:=Nat.le_trans h Pen3.sl1000
theorem szl {n:Nat} (h:n < 1000):n < sizeLine:=Nat.lt_of_lt_of_le h Pen3.sl1000
end L2
namespace W22
open PySem L2
def top (i:Nat):Stmt:=PySem.Challenge.pw_wordrules_k22_what_is_a_table.main.body.getD i (.Pass ⟨0,0,0,0⟩)
structure Bl (mg:Str→Option Value):Prop where
 abs0:mg "abs"=none
 all0:mg "all"=none
 bool0:mg "bool"=none
 int0:mg "int"=none
 isinstance0:mg "isinstance"=none
 len0:mg "len"=none
 list0:mg "list"=none
 range0:mg "range"=none
 repr0:mg "repr"=none
 str0:mg "str"=none
 sum0:mg "sum"=none
 tuple0:mg "tuple"=none
 zip0:mg "zip"=none
section
variable {P:Program} {w:World} {K:PySem.W.Frag} {mg:Str→Option Value} {base:Heap} {f:Addr} {fd:FuncData}
abbrev i3:Stmt:=top 1
abbrev lj:List Str:=["thing"]
theorem scis_whole:FnScope lj ["thing"] (aq i3):=⟨rfl,rfl,rfl,by decide +kernel,rfl,by decide +kernel,by decide +kernel⟩
def ja:MS:=(aQ (iV (e1 (aJ "int") (ac 0)) (kB (e1 (aJ "bool") (ac 0)))))
def dR:List D→Option (D × En):=fnF 0 [0] ja
theorem nY {k:Nat} (T:Bl mg)   (F:Fun K "is_whole" "is_whole" i3 f fd):FnOk P w K mg base CX0 (k+1) f fd ["thing"] (spF K [0] 3 dR):=by
 have nd:=scis_whole.nd
 refine F.okQ (N:=lj) (b:=ja) (J:=⟨[],[0],3,[]⟩) (ds0:=[0]) scis_whole rfl rfl rfl rfl fun cdv A outer s H E hr=>?_
 exact (au (aF (jK (cu (K:=K) (n:="int") rfl rfl T.isinstance0 rfl T.int0 (by decide +kernel) (by decide) (ad (i:=0) rfl (.inl rfl) rfl rfl rfl) (by decide) rfl rfl rfl rfl) (jJ (rl (cu (K:=K) (n:="bool") rfl rfl T.isinstance0 rfl T.bool0 (by decide +kernel) (by decide) (ad (i:=0) rfl (.inl rfl) rfl rfl rfl) (by decide) rfl rfl rfl rfl)))) rfl))
abbrev cD:Stmt:=top 3
abbrev dL:List Str:=["machine"]
theorem scnumbers_of_none:FnScope dL ["machine"] (aq cD):=⟨rfl,rfl,rfl,by decide +kernel,rfl,by decide +kernel,by decide +kernel⟩
def i9:ME:=(eIf (tV (ac 0)) (eC (.int 1)) (eC (.int 0)))
def b8:MS:=(aQ (eLC true (bb (e2 ixA (ac 0) (eC (.int 0)))) (gN 0) cY i9 [none]))
def bF:List D→Option (D × En):=fnF 0 [0] b8
theorem jn {k:Nat} (T:Bl mg)   (F:Fun K "numbers_of_none" "numbers_of_none" cD f fd):FnOk P w K mg base CX0 (k+1) f fd ["machine"] (spF K [0] 3 bF):=by
 have nd:=scnumbers_of_none.nd
 refine F.okQ (N:=dL) (b:=b8) (J:=⟨[],[0],3,[]⟩) (ds0:=[0]) scnumbers_of_none rfl rfl rfl rfl fun cdv A outer s H E hr=>?_
 exact (au (aF (cc (cd:=3) (d:=3) (dsi:=[0]) (lk:=[]) (BlkOkC.of (ns:=["end"]) (js:=[none]) (N0:=dL) (sc0:=aq cD) rfl rfl (by decide +kernel)) rfl (ba (K:=K) rfl (aO (bc (K:=K) rfl) (ad (i:=0) rfl (.inl rfl) rfl rfl rfl) aj (fun _ _=>rfl))) (fun _ _ _ _ _=>(aD (i:=0) (ds':=[0]) (show (["end"]:List Str).Nodup by decide +kernel) rfl (.inl rfl) rfl (by decide) (by decide) (.inr rfl))) (fun _ _ _ _ _=>be) (fun _ _ _ _ _=>(zh (cg (ad (i:=0) rfl (.inl rfl) rfl rfl rfl) (fun _=>rfl)) aj aj)) rfl rfl (by decide) rfl (fun _=>rfl)) rfl))
abbrev bU:Stmt:=top 4
abbrev cE:List Str:=["machine", "fewer"]
theorem scnumbers_of_one_more:FnScope cE ["machine", "fewer"] (aq bU):=⟨rfl,rfl,rfl,by decide +kernel,rfl,by decide +kernel,by decide +kernel⟩
def gA:MT:=(tV (e2 dX (ac 0) (eC .none)))
def gE:ME:=(e2 ixA (ac 1) (ac 0))
def gD:ME:=(eN iJ (af (eLC true (bb (ac 0)) (gN 0) gA gE [none,some 1]) ah))
def bx:MS:=(aQ (eLC true (bb (e2 ixA (ac 0) (eC (.int 1)))) (gN 0) cY gD [none,some 1]))
def bg:List D→Option (D × En):=fnF 0 [0,0] bx
theorem gJ {k:Nat} (T:Bl mg)   (F:Fun K "numbers_of_one_more" "numbers_of_one_more" bU f fd):FnOk P w K mg base CX0 (k+1) f fd ["machine", "fewer"] (spF K [0,0] 3 bg):=by
 have nd:=scnumbers_of_one_more.nd
 refine F.okQ (N:=cE) (b:=bx) (J:=⟨[],[0,0],3,[]⟩) (ds0:=[0,0]) scnumbers_of_one_more rfl rfl rfl rfl fun cdv A outer s H E hr=>?_
 exact (au (aF (cc (cd:=3) (d:=3) (dsi:=[0,0]) (lk:=[1]) (BlkOkC.of (ns:=["ways", "fewer"]) (js:=[none,some 1]) (N0:=cE) (sc0:=aq bU) rfl rfl (by decide +kernel)) rfl (ba (K:=K) rfl (aO (bc (K:=K) rfl) (ad (i:=0) rfl (.inl rfl) rfl rfl rfl) aj (fun _ _=>rfl))) (fun _ _ _ _ _=>(aD (i:=0) (ds':=[0,0]) (show (["ways", "fewer"]:List Str).Nodup by decide +kernel) rfl (.inl rfl) rfl (by decide) (by decide) (.inr rfl))) (fun _ _ _ _ _=>be) (fun _ _ _ _ _=>(aB (pL (K:=K) rfl rfl) rfl T.sum0 (by decide +kernel) (ae (al (d':=0) (cc (cd:=0) (d:=1) (dsi:=[0,0]) (lk:=[1]) (BlkOkC.inn (ns:=["there", "fewer"]) (js:=[none,some 1]) (N0:=["ways", "fewer"]) rfl rfl (by decide +kernel)) rfl (ba (K:=K) rfl (ad (i:=0) rfl (.inl rfl) rfl rfl rfl)) (fun _ _ _ _ _=>(aD (i:=0) (ds':=[0,0]) (show (["there", "fewer"]:List Str).Nodup by decide +kernel) rfl (.inl rfl) rfl (by decide) (by decide) (.inr rfl))) (fun _ _ _ _ _=>(iR (aP kA (ad (i:=0) rfl (.inl rfl) rfl rfl rfl) cs (aX _)))) (fun _ _ _ _ _=>(aO (bc (K:=K) rfl) (ad (i:=1) rfl (.inr (.inl rfl)) rfl rfl rfl) (ad (i:=0) rfl (.inl rfl) rfl rfl rfl) (fun _ _=>rfl))) rfl rfl (by decide) rfl (fun _=>rfl)) (by decide)) ag rfl) rfl (by decide) rfl rfl rfl)) rfl rfl (by decide) rfl (fun _=>rfl)) rfl))
abbrev ee:Stmt:=top 6
abbrev fY:List Str:=["many", "thing"]
theorem scare_numbers:FnScope fY ["many", "thing"] (aq ee):=⟨rfl,rfl,rfl,by decide +kernel,rfl,by decide +kernel,by decide +kernel⟩
def gZ:ME:=(ax dR (af (ac 0) ah))
def eA:MS:=(aQ (iV (e1 (aJ "list") (ac 1)) (iV (e2 eqD (eN bd (af (ac 1) ah)) (ac 0)) (eN iZ (af (eLC true (bb (ac 1)) (gN 0) cY gZ [none]) ah)))))
def bZ:List D→Option (D × En):=fnF 0 [0,0] eA
theorem lu {k:Nat} (T:Bl mg)  (qb:Kn P w K mg base k "is_whole" ["thing"] (spF K [0] 3 dR)) (F:Fun K "are_numbers" "are_numbers" ee f fd):FnOk P w K mg base CX0 (k+1) f fd ["many", "thing"] (spF K [0,0] 3 bZ):=by
 have nd:=scare_numbers.nd
 refine F.okQ (N:=fY) (b:=eA) (J:=⟨[],[0,0],3,[]⟩) (ds0:=[0,0]) scare_numbers rfl rfl rfl rfl fun cdv A outer s H E hr=>?_
 exact (au (aF (jK (cu (K:=K) (n:="list") rfl rfl T.isinstance0 rfl T.list0 (by decide +kernel) (by decide) (ad (i:=1) rfl (.inl rfl) rfl rfl rfl) (by decide) rfl rfl rfl rfl) (jK (eJ (fE (K:=K) rfl hr.units) (aB (bB (K:=K) rfl) rfl T.len0 (by decide +kernel) (ae (ad (i:=1) rfl (.inl rfl) rfl rfl rfl) ag rfl) rfl (by decide) rfl rfl rfl) (ad (i:=0) rfl (.inl rfl) rfl rfl rfl) (aX _)) (jJ (aB (mK (K:=K) rfl rfl) rfl T.all0 (by decide +kernel) (ae (al (d':=0) (cc (cd:=3) (d:=3) (dsi:=[0]) (lk:=[]) (BlkOkC.of (ns:=["number"]) (js:=[none]) (N0:=fY) (sc0:=aq ee) rfl rfl (by decide +kernel)) rfl (ba (K:=K) rfl (ad (i:=1) rfl (.inl rfl) rfl rfl rfl)) (fun _ _ _ _ _=>(aD (i:=0) (ds':=[0]) (show (["number"]:List Str).Nodup by decide +kernel) rfl (.inl rfl) rfl (by decide) (by decide) (.inr rfl))) (fun _ _ _ _ _=>be) (fun _ _ _ _ _=>(bo qb hr rfl (ae (ad (i:=0) rfl (.inl rfl) rfl rfl rfl) ag rfl) rfl rfl rfl rfl rfl)) rfl rfl (by decide) rfl (fun _=>rfl)) (by decide)) ag rfl) rfl (by decide) rfl rfl rfl)))) rfl))
abbrev da:Stmt:=top 5
abbrev ef:List Str:=["machine", "thing"]
theorem scholds_table:FnScope ef ["machine", "thing"] (aq da):=⟨rfl,rfl,rfl,by decide +kernel,rfl,by decide +kernel,by decide +kernel⟩
def gY:ME:=(ax bZ (af (eN bd (af (e2 ixA (ac 1) (eC (.int 0))) ah)) (af (ac 0) ah)))
def gX:ME:=(e2 eqD (e2 ixA (ac 2) (ac 0)) (ax bg (af (ac 1) (af (e2 ixA (ac 2) (e2 dw (ac 0) (eC (.int 1)))) ah))))
def ek:MS:=(ak (sIf (bOr (fV (tV (e1 (aJ "list") (ac 1)))) (tV (e2 eqD (eN bd (af (ac 1) ah)) (eC (.int 0))))) (aQ (eC (.bool false))) bD)
 (ak (sIf (fV (tV (eN iZ (af (eLC true (bb (ac 1)) (gN 0) cY gY [none,some 0]) ah)))) (aQ (eC (.bool false))) bD)
 (ak (sIf (tV (e2 neD (e2 ixA (ac 1) (eC (.int 0))) (ax bF (af (ac 0) ah)))) (aQ (eC (.bool false))) bD)
 (aQ (eN iZ (af (eLC true (iQ (af (eC (.int 1)) (af (eN bd (af (ac 1) ah)) ah))) (gN 0) cY gX [none,some 0,some 1]) ah))))))
def bJ:List D→Option (D × En):=fnF 0 [0,0] ek
theorem ls {k:Nat} (T:Bl mg)  (jQ:Kn P w K mg base k "numbers_of_none" ["machine"] (spF K [0] 3 bF)) (mZ:Kn P w K mg base k "are_numbers" ["many", "thing"] (spF K [0,0] 3 bZ)) (iA:Kn P w K mg base k "numbers_of_one_more" ["machine", "fewer"] (spF K [0,0] 3 bg)) (F:Fun K "holds_table" "holds_table" da f fd):FnOk P w K mg base CX0 (k+1) f fd ["machine", "thing"] (spF K [0,0] 3 bJ):=by
 have nd:=scholds_table.nd
 refine F.okQ (N:=ef) (b:=ek) (J:=⟨[],[0,0],3,[]⟩) (ds0:=[0,0]) scholds_table rfl rfl rfl rfl fun cdv A outer s H E hr=>?_
 exact (ai (br (ds2:=[0,0]) (qpt (di (dO (cg (cu (K:=K) (n:="list") rfl rfl T.isinstance0 rfl T.list0 (by decide +kernel) (by decide) (ad (i:=1) rfl (.inr (.inl rfl)) rfl rfl rfl) (by decide) rfl rfl rfl rfl) (fun _=>rfl))) (cU (aP (fE (K:=K) rfl hr.units) (aB (bB (K:=K) rfl) rfl T.len0 (by decide +kernel) (ae (ad (i:=1) rfl (.inr (.inl rfl)) rfl rfl rfl) ag rfl) rfl (by decide) rfl rfl rfl) aj (aX _))))) (au (aF bM rfl)) bh)
  (ai (br (ds2:=[0,0]) (dO (cg (aB (mK (K:=K) rfl rfl) rfl T.all0 (by decide +kernel) (ae (al (d':=0) (cc (cd:=3) (d:=3) (dsi:=[0,0]) (lk:=[1]) (BlkOkC.of (ns:=["numbers", "machine"]) (js:=[none,some 0]) (N0:=ef) (sc0:=aq da) rfl rfl (by decide +kernel)) rfl (ba (K:=K) rfl (ad (i:=1) rfl (.inr (.inl rfl)) rfl rfl rfl)) (fun _ _ _ _ _=>(aD (i:=0) (ds':=[0,0]) (show (["numbers", "machine"]:List Str).Nodup by decide +kernel) rfl (.inl rfl) rfl (by decide) (by decide) (.inr rfl))) (fun _ _ _ _ _=>be) (fun _ _ _ _ _=>(bo mZ hr rfl (ae (al (d':=0) (aB (bB (K:=K) rfl) rfl T.len0 (by decide +kernel) (ae (aO (bc (K:=K) rfl) (ad (i:=1) rfl (.inr (.inl rfl)) rfl rfl rfl) aj (fun _ _=>rfl)) ag rfl) rfl (by decide) rfl rfl rfl) (by decide)) (ae (ad (i:=0) rfl (.inl rfl) rfl rfl rfl) ag rfl) rfl) rfl rfl rfl rfl rfl)) rfl rfl (by decide) rfl (fun _=>rfl)) (by decide)) ag rfl) rfl (by decide) rfl rfl rfl) (fun _=>rfl))) (au (aF bM rfl)) bh)
  (ai (br (ds2:=[0,0]) (aP (jg (K:=K) rfl hr.units) (aO (bc (K:=K) rfl) (ad (i:=1) rfl (.inr (.inl rfl)) rfl rfl rfl) aj (fun _ _=>rfl)) (bo jQ hr rfl (ae (ad (i:=0) rfl (.inr (.inl rfl)) rfl rfl rfl) ag rfl) rfl rfl rfl rfl rfl) (aX _)) (au (aF bM rfl)) bh)
  (au (aF (aB (mK (K:=K) rfl rfl) rfl T.all0 (by decide +kernel) (ae (al (d':=0) (cc (cd:=3) (d:=3) (dsi:=[0,0,0]) (lk:=[1,2]) (BlkOkC.of (ns:=["most", "machine", "thing"]) (js:=[none,some 0,some 1]) (N0:=ef) (sc0:=aq da) rfl rfl (by decide +kernel)) rfl (pP rfl T.range0 (ae (al (d':=0) aj (by decide)) (ae (al (d':=0) (aB (bB (K:=K) rfl) rfl T.len0 (by decide +kernel) (ae (ad (i:=1) rfl (.inr (.inl rfl)) rfl rfl rfl) ag rfl) rfl (by decide) rfl rfl rfl) (by decide)) ag rfl) rfl) rfl rfl) (fun _ _ _ _ _=>(aD (i:=0) (ds':=[0,0,0]) (show (["most", "machine", "thing"]:List Str).Nodup by decide +kernel) rfl (.inl rfl) rfl (by decide) (by decide) (.inr rfl))) (fun _ _ _ _ _=>be) (fun _ _ _ _ _=>(eJ (fE (K:=K) rfl hr.units) (aO (bc (K:=K) rfl) (ad (i:=2) rfl (.inr (.inl rfl)) rfl rfl rfl) (ad (i:=0) rfl (.inl rfl) rfl rfl rfl) (fun _ _=>rfl)) (bo iA hr rfl (ae (ad (i:=1) rfl (.inr (.inl rfl)) rfl rfl rfl) (ae (aO (bc (K:=K) rfl) (ad (i:=2) rfl (.inr (.inl rfl)) rfl rfl rfl) (am iS (ad (i:=0) rfl (.inl rfl) rfl rfl rfl) aj) (fun _ _=>rfl)) ag rfl) rfl) rfl rfl rfl rfl rfl) (aX _))) rfl rfl (by decide) rfl (fun _=>rfl)) (by decide)) ag rfl) rfl (by decide) rfl rfl rfl) rfl)))))
abbrev i4:Stmt:=top 8
abbrev lp:List Str:=["_law_script", "_law_first"]
theorem sc_law_pen:FnScope lp ["_law_script", "_law_first"] (aq i4):=⟨rfl,rfl,rfl,by decide +kernel,rfl,by decide +kernel,by decide +kernel⟩
def dU:MS:=(aQ (fG [((eC (.str "script")),(ac 0)),((eC (.str "at")),(ac 1)),((eC (.str "left")),(eC (.int 0)))]))
def cr:List D→Option (D × En):=fnF 0 [0,0] dU
theorem n6 {k:Nat} (T:Bl mg)   (F:Fun K "_law_pen" "_law_pen" i4 f fd):FnOk P w K mg base CX0 (k+1) f fd ["_law_script", "_law_first"] (spF K [0,0] 1 cr):=by
 have nd:=sc_law_pen.nd
 refine F.okQ (N:=lp) (b:=dU) (J:=⟨[],[0,0],1,[]⟩) (ds0:=[0,0]) sc_law_pen rfl rfl rfl rfl fun cdv A outer s H E hr=>?_
 exact (au (aF (k6 (fs:=[((eC (.str "script")),(ac 0)),((eC (.str "at")),(ac 1)),((eC (.str "left")),(eC (.int 0)))]) (gi bO (ad (i:=0) rfl (.inl rfl) rfl rfl rfl) (gi bO (ad (i:=1) rfl (.inl rfl) rfl rfl rfl) (gi bO (al (d':=0) aj (by decide)) mG))) rfl rfl (fun z=>nomatch z) (by decide)) rfl))
abbrev gC:Stmt:=top 9
abbrev jv:List Str:=["_law_cell", "_law_k", "_law_one", "_law_two"]
theorem sc_law_mixed:FnScope jv ["_law_cell", "_law_k"] (aq gC):=⟨rfl,rfl,rfl,by decide +kernel,rfl,by decide +kernel,by decide +kernel⟩
def dD:MS:=(ak (ar 2 (e2 bW (e2 cy (e2 aZ (e2 aZ (e2 bW (ac 0) (eC (.int 2147483629))) (e2 cy (eC (.int 40503)) (ac 1))) (eC (.int 24691))) (eC (.int 48271))) (eC (.int 2147483647))))
 (ak (ar 3 (e2 bW (e2 aZ (e2 aZ (e2 cy (ac 2) (ac 2)) (e2 cy (eC (.int 69621)) (ac 2))) (ac 1)) (eC (.int 2147483629))))
 (aQ (e2 eW (e2 bW (e2 aZ (e2 aZ (e2 cy (ac 3) (ac 3)) (e2 cy (eC (.int 16807)) (ac 3))) (e2 cy (eC (.int 31)) (ac 1))) (eC (.int 1073741789))) (eC (.int 64))))))
def bV:List D→Option (D × En):=fnF 2 [0,0] dD
theorem me {k:Nat} (T:Bl mg)   (F:Fun K "_law_mixed" "_law_mixed" gC f fd):FnOk P w K mg base CX0 (k+1) f fd ["_law_cell", "_law_k"] (spF K [0,0] 3 bV):=by
 have nd:=sc_law_mixed.nd
 refine F.okQ (N:=jv) (b:=dD) (J:=⟨[],[0,0,0,0],3,[]⟩) (ds0:=[0,0,0,0]) sc_law_mixed rfl rfl rfl rfl fun cdv A outer s H E hr=>?_
 exact (ai (av (i:=2) (d:=0) (ds':=[0,0,0,0]) nd rfl (.inl rfl) (al (d':=0) (am fT (am ff (am bt (am bt (am fT (ad (i:=0) rfl (.inl rfl) rfl rfl rfl) aj) (am ff aj (ad (i:=1) rfl (.inl rfl) rfl rfl rfl))) aj) aj) aj) (by decide)) rfl (by decide) (by decide) rfl (.inl rfl))
  (ai (av (i:=3) (d:=0) (ds':=[0,0,0,0]) nd rfl (.inl rfl) (al (d':=0) (am fT (am bt (am bt (am ff (ad (i:=2) rfl (.inl rfl) rfl rfl rfl) (ad (i:=2) rfl (.inl rfl) rfl rfl rfl)) (am ff aj (ad (i:=2) rfl (.inl rfl) rfl rfl rfl))) (ad (i:=1) rfl (.inl rfl) rfl rfl rfl)) aj) (by decide)) rfl (by decide) (by decide) rfl (.inl rfl))
  (au (aF (am nH (am fT (am bt (am bt (am ff (ad (i:=3) rfl (.inl rfl) rfl rfl rfl) (ad (i:=3) rfl (.inl rfl) rfl rfl rfl)) (am ff aj (ad (i:=3) rfl (.inl rfl) rfl rfl rfl))) (am ff aj (ad (i:=1) rfl (.inl rfl) rfl rfl rfl))) aj) aj) rfl))))
abbrev iw:Stmt:=top 10
abbrev kl:List Str:=["_law_pen_here", "_law_most", "_law_k", "_law_script", "_law_cell", "_law_got"]
theorem sc_law_take:FnScope kl ["_law_pen_here", "_law_most"] (aq iw):=⟨rfl,rfl,rfl,by decide +kernel,rfl,by decide +kernel,by decide +kernel⟩
def fI:MS:=(ak (ar 2 (bC 0 (eC (.str "at"))))
 (ak (ar 3 (bC 0 (eC (.str "script"))))
 (ak (sIf (tV (e2 eqD (bC 0 (eC (.str "left"))) (eC (.int 0)))) (ak (cP 0 (eC (.str "at")) (e2 aZ (ac 2) (eC (.int 1))))
 (ak (ar 4 (eC (.int 0)))
 (ak (sIf (tV (e2 gtI (eN bd (af (ac 3) ah)) (eC (.int 0)))) (ar 4 (e2 ixA (ac 3) (e2 bW (ac 2) (eN bd (af (ac 3) ah))))) bD)
 (ak (sIf (bOr (tV (e2 geI (ac 2) (eN bd (af (ac 3) ah)))) (tV (e2 ltI (eN ir (af (ac 4) ah)) (e2 gp (eC (.int 10)) (eC (.int 18)))))) (aQ (e2 bW (ax bV (af (ac 4) (af (ac 2) ah))) (ac 1))) bD)
 (cP 0 (eC (.str "left")) (eN ir (af (ac 4) ah))))))) bD)
 (ak (ar 5 (e2 bW (bC 0 (eC (.str "left"))) (ac 1)))
 (ak (cP 0 (eC (.str "left")) (e2 eW (bC 0 (eC (.str "left"))) (ac 1)))
 (aQ (ac 5)))))))
def ap:List D→Option (D × En):=fnF 4 [1,0] fI
theorem m5 {k:Nat} (T:Bl mg)  (ng:Kn P w K mg base k "_law_mixed" ["_law_cell", "_law_k"] (spF K [0,0] 3 bV)) (F:Fun K "_law_take" "_law_take" iw f fd):FnOk P w K mg base CX0 (k+1) f fd ["_law_pen_here", "_law_most"] (spF K [1,0] 0 ap):=by
 have nd:=sc_law_take.nd
 refine F.okQ (N:=kl) (b:=fI) (J:=⟨[0],[1,0,0,0,0,0],0,[]⟩) (ds0:=[1,0,0,0,0,0]) sc_law_take rfl rfl rfl rfl fun cdv A outer s H E hr=>?_
 exact (ai (av (i:=2) (d:=0) (ds':=[1,0,0,0,0,0]) nd rfl (.inl rfl) (dZ (i:=0) (gh hr) rfl (.inl rfl) rfl bO (fun _ _=>rfl) rfl rfl) rfl (by decide) (by decide) rfl (.inl rfl))
  (ai (av (i:=3) (d:=0) (ds':=[1,0,0,0,0,0]) nd rfl (.inl rfl) (dZ (i:=0) (gh hr) rfl (.inl rfl) rfl bO (fun _ _=>rfl) rfl rfl) rfl (by decide) (by decide) rfl (.inl rfl))
  (ai (br (ds2:=[1,0,0,0,0,0]) (aP (fE (K:=K) rfl hr.units) (dZ (i:=0) (gh hr) rfl (.inl rfl) rfl bO (fun _ _=>rfl) rfl rfl) aj (aX _)) (ai (io (i:=0) (gh hr) rfl (.inl rfl) (al (d':=0) (am bt (ad (i:=2) rfl (.inl rfl) rfl rfl rfl) aj) (by decide)) bO rfl rfl rfl rfl)
  (ai (av (i:=4) (d:=0) (ds':=[1,0,0,0,0,0]) nd rfl (.inl rfl) (al (d':=0) aj (by decide)) rfl (by decide) (by decide) rfl (.inl rfl))
  (ai (br (ds2:=[1,0,0,0,0,0]) (aP Ed (aB (bB (K:=K) rfl) rfl T.len0 (by decide +kernel) (ae (ad (i:=3) rfl (.inl rfl) rfl rfl rfl) ag rfl) rfl (by decide) rfl rfl rfl) aj (aX _)) (au (av (i:=4) (d:=0) (ds':=[1,0,0,0,0,0]) nd rfl (.inl rfl) (aO (bc (K:=K) rfl) (ad (i:=3) rfl (.inl rfl) rfl rfl rfl) (am fT (ad (i:=2) rfl (.inl rfl) rfl rfl rfl) (aB (bB (K:=K) rfl) rfl T.len0 (by decide +kernel) (ae (ad (i:=3) rfl (.inl rfl) rfl rfl rfl) ag rfl) rfl (by decide) rfl rfl rfl)) (fun _ _=>rfl)) rfl (by decide) (by decide) rfl (.inl rfl))) bh)
  (ai (br (ds2:=[1,0,0,0,0,0]) (qpt (di (aP xB (ad (i:=2) rfl (.inl rfl) rfl rfl rfl) (aB (bB (K:=K) rfl) rfl T.len0 (by decide +kernel) (ae (ad (i:=3) rfl (.inl rfl) rfl rfl rfl) ag rfl) rfl (by decide) rfl rfl rfl) (aX _)) (cU (aP oF (aB pN rfl T.abs0 (by decide +kernel) (ae (ad (i:=4) rfl (.inl rfl) rfl rfl rfl) ag rfl) rfl (by decide) rfl rfl rfl) (am mJ aj aj) (aX _))))) (au (aF (al (d':=0) (am fT (bo ng hr rfl (ae (ad (i:=4) rfl (.inl rfl) rfl rfl rfl) (ae (ad (i:=2) rfl (.inl rfl) rfl rfl rfl) ag rfl) rfl) rfl rfl rfl rfl rfl) (ad (i:=1) rfl (.inl rfl) rfl rfl rfl)) (by decide)) rfl)) bh)
  (au (io (i:=0) (gh hr) rfl (.inl rfl) (al (d':=0) (aB pN rfl T.abs0 (by decide +kernel) (ae (ad (i:=4) rfl (.inl rfl) rfl rfl rfl) ag rfl) rfl (by decide) rfl rfl rfl) (by decide)) bO rfl rfl rfl rfl)))))) bh)
  (ai (av (i:=5) (d:=0) (ds':=[1,0,0,0,0,0]) nd rfl (.inl rfl) (al (d':=0) (am fT (dZ (i:=0) (gh hr) rfl (.inl rfl) rfl bO (fun _ _=>rfl) rfl rfl) (ad (i:=1) rfl (.inl rfl) rfl rfl rfl)) (by decide)) rfl (by decide) (by decide) rfl (.inl rfl))
  (ai (io (i:=0) (gh hr) rfl (.inl rfl) (al (d':=0) (am nH (dZ (i:=0) (gh hr) rfl (.inl rfl) rfl bO (fun _ _=>rfl) rfl rfl) (ad (i:=1) rfl (.inl rfl) rfl rfl rfl)) (by decide)) bO rfl rfl rfl rfl)
  (au (aF (ad (i:=5) rfl (.inl rfl) rfl rfl rfl) rfl)))))))
abbrev gB:Stmt:=top 11
abbrev ju:List Str:=["_law_pen_here"]
theorem sc_law_signs:FnScope ju ["_law_pen_here"] (aq gB):=⟨rfl,rfl,rfl,by decide +kernel,rfl,by decide +kernel,by decide +kernel⟩
def e8:MS:=(aQ (e2 ixA (aG (af (eC (.int 2)) (af (eC (.int 1)) (af (eC (.int 3)) (af (eC (.int 2)) (af (eC (.int 4)) (af (eC (.int 3)) (af (eC (.int 2)) (af (e2 aZ (eC (.int 5)) (ax ap (aH 0 (af (eC (.int 8)) ah)))) ah))))))))) (ax ap (aH 0 (af (eC (.int 8)) ah)))))
def cM:List D→Option (D × En):=fnF 0 [1] e8
theorem ma {k:Nat} (T:Bl mg)  (aS:Kn P w K mg base k "_law_take" ["_law_pen_here", "_law_most"] (spF K [1,0] 0 ap)) (F:Fun K "_law_signs" "_law_signs" gB f fd):FnOk P w K mg base CX0 (k+1) f fd ["_law_pen_here"] (spF K [1] 0 cM):=by
 have nd:=sc_law_signs.nd
 refine F.okQ (N:=ju) (b:=e8) (J:=⟨[0],[1],0,[]⟩) (ds0:=[1]) sc_law_signs rfl rfl rfl rfl fun cdv A outer s H E hr=>?_
 exact (au (aF (aO (bc (K:=K) rfl) (aR (d:=3) (c:=3) (ae aj (ae aj (ae aj (ae aj (ae aj (ae aj (ae aj (ae (am bt aj (bf aS hr rfl (aV (i:=0) rfl (.inl rfl) (ae (al (d':=0) aj (by decide)) ag rfl) rfl rfl) rfl rfl rfl rfl)) ag rfl) rfl) rfl) rfl) rfl) rfl) rfl) rfl) rfl rfl (by decide)) (bf aS hr rfl (aV (i:=0) rfl (.inl rfl) (ae (al (d':=0) aj (by decide)) ag rfl) rfl rfl) rfl rfl rfl rfl) (fun _ _=>rfl)) rfl))
abbrev iy:Stmt:=top 12
abbrev km:List Str:=["_law_pen_here", "_law_stand", "_law_stands", "_law_way", "_law_goal_here"]
theorem sc_law_goal:FnScope km ["_law_pen_here", "_law_stand", "_law_stands", "_law_way"] (aq iy):=⟨rfl,rfl,rfl,by decide +kernel,rfl,by decide +kernel,by decide +kernel⟩
def du:MS:=(ak (ar 4 (ax ap (aH 0 (af (e2 aZ (ac 2) (eC (.int 1))) ah))))
 (ak (sIf (bOr (tV (e2 eqD (ac 4) (ac 2))) (cZ (tV (e2 eqD (ac 3) (eC (.int 1)))) (tV (e2 leI (ac 4) (ac 1))))) (aQ (eC .none)) bD)
 (aQ (ac 4))))
def bw:List D→Option (D × En):=fnF 1 [1,0,0,0] du
theorem m6 {k:Nat} (T:Bl mg)  (aS:Kn P w K mg base k "_law_take" ["_law_pen_here", "_law_most"] (spF K [1,0] 0 ap)) (F:Fun K "_law_goal" "_law_goal" iy f fd):FnOk P w K mg base CX0 (k+1) f fd ["_law_pen_here", "_law_stand", "_law_stands", "_law_way"] (spF K [1,0,0,0] 0 bw):=by
 have nd:=sc_law_goal.nd
 refine F.okQ (N:=km) (b:=du) (J:=⟨[0],[1,0,0,0,0],0,[]⟩) (ds0:=[1,0,0,0,0]) sc_law_goal rfl rfl rfl rfl fun cdv A outer s H E hr=>?_
 exact (ai (av (i:=4) (d:=0) (ds':=[1,0,0,0,0]) nd rfl (.inl rfl) (bf aS hr rfl (aV (i:=0) rfl (.inl rfl) (ae (al (d':=0) (am bt (ad (i:=2) rfl (.inl rfl) rfl rfl rfl) aj) (by decide)) ag rfl) rfl rfl) rfl rfl rfl rfl) rfl (by decide) (by decide) rfl (.inl rfl))
  (ai (br (ds2:=[1,0,0,0,0]) (qpt (di (aP (fE (K:=K) rfl hr.units) (ad (i:=4) rfl (.inl rfl) rfl rfl rfl) (ad (i:=2) rfl (.inl rfl) rfl rfl rfl) (aX _)) (cU (qpt (mE (aP (fE (K:=K) rfl hr.units) (ad (i:=3) rfl (.inl rfl) rfl rfl rfl) aj (aX _)) (kS (aP xA (ad (i:=4) rfl (.inl rfl) rfl rfl rfl) (ad (i:=1) rfl (.inl rfl) rfl rfl rfl) (aX _)))))))) (au (aF (al (d':=0) cs (by decide)) rfl)) bh)
  (au (aF (ad (i:=4) rfl (.inl rfl) rfl rfl rfl) rfl))))
abbrev cF:Stmt:=top 13
abbrev dH:List Str:=["_law_pen_here", "_law_signs_here", "_law_most", "_law_stands", "_law_way", "_law_fence", "_law_ends", "_law_goes", "_law_stand", "_law_row"]
theorem sc_law_machine:FnScope dH ["_law_pen_here", "_law_signs_here", "_law_most"] (aq cF):=⟨rfl,rfl,rfl,by decide +kernel,rfl,by decide +kernel,by decide +kernel⟩
def kr:ME:=(ax bw (aH 1 (af (ac 4) (af (ac 2) (af (ac 3) ah)))))
def kq:ME:=(e2 ixA (aG (af (ac 0) (af (eC .none) ah))) (eN gw (af (eOr (e2 isN (ac 0) (eC .none)) (e2 geI (ac 0) (ac 1))) ah)))
def ko:MS:=(ak (bQ (bP 6 (e2 eqD (ax ap (aH 0 (af (eC (.int 3)) ah))) (eC (.int 0)))))
 (ak (ar 9 (eLC false (cf (af (ac 1) ah)) (gN 0) cY kr [none,some 0,some 3,some 4,some 8]))
 (ak (sIf (cZ (tV (e2 eqD (ac 4) (eC (.int 2)))) (tV (e2 ltI (ac 8) (ac 5)))) (ak (gg 6 (ac 8) (eC (.bool false)))
 (ar 9 (eLC true (bb (ac 9)) (gN 0) cY kq [none,some 5]))) bD)
 (bQ (bP 7 (ac 9))))))
def cG:MS:=(ak (ar 3 (e2 aZ (eC (.int 1)) (ax ap (aH 0 (af (ac 2) ah)))))
 (ak (ar 4 (ax ap (aH 0 (af (eC (.int 4)) ah))))
 (ak (ar 5 (e2 aZ (eC (.int 1)) (ax ap (aH 0 (af (ac 3) ah)))))
 (ak (ar 6 (aG ah))
 (ak (ar 7 (aG ah))
 (ak (cR (cf (af (ac 3) ah)) (gN 8) ko)
 (aQ (cN (af (ac 6) (af (ac 7) ah))))))))))
def ce:List D→Option (D × En):=fnF 7 [1,0,0] cG
theorem kx {k:Nat} (T:Bl mg)  (aS:Kn P w K mg base k "_law_take" ["_law_pen_here", "_law_most"] (spF K [1,0] 0 ap)) (oP:Kn P w K mg base k "_law_goal" ["_law_pen_here", "_law_stand", "_law_stands", "_law_way"] (spF K [1,0,0,0] 0 bw)) (F:Fun K "_law_machine" "_law_machine" cF f fd):FnOk P w K mg base CX0 (k+1) f fd ["_law_pen_here", "_law_signs_here", "_law_most"] (spF K [1,0,0] 0 ce):=by
 have nd:=sc_law_machine.nd
 refine F.okQ (N:=dH) (b:=cG) (J:=⟨[0],[1,0,0,0,0,0,0,0,0,0],0,[]⟩) (ds0:=[1,0,0,0,0,0,0,0,0,0]) sc_law_machine rfl rfl rfl rfl fun cdv A outer s H E hr=>?_
 exact (ai (av (i:=3) (d:=0) (ds':=[1,0,0,0,0,0,0,0,0,0]) nd rfl (.inr rfl) (al (d':=0) (am bt aj (bf aS hr rfl (aV (i:=0) rfl (.inr (.inl rfl)) (ae (ad (i:=2) rfl (.inl rfl) rfl rfl rfl) ag rfl) rfl rfl) rfl rfl rfl rfl)) (by decide)) rfl (by decide) (by decide) rfl (.inl rfl))
  (ai (av (i:=4) (d:=0) (ds':=[1,0,0,0,0,0,0,0,0,0]) nd rfl (.inr rfl) (bf aS hr rfl (aV (i:=0) rfl (.inr (.inl rfl)) (ae (al (d':=0) aj (by decide)) ag rfl) rfl rfl) rfl rfl rfl rfl) rfl (by decide) (by decide) rfl (.inl rfl))
  (ai (av (i:=5) (d:=0) (ds':=[1,0,0,0,0,0,0,0,0,0]) nd rfl (.inr rfl) (al (d':=0) (am bt aj (bf aS hr rfl (aV (i:=0) rfl (.inr (.inl rfl)) (ae (ad (i:=3) rfl (.inr (.inl rfl)) rfl rfl rfl) ag rfl) rfl rfl) rfl rfl rfl rfl)) (by decide)) rfl (by decide) (by decide) rfl (.inl rfl))
  (ai (av (i:=6) (d:=1) (ds':=[1,0,0,0,0,0,1,0,0,0]) nd rfl (.inl rfl) (al (d':=1) (aR (d:=3) (c:=3) ag rfl rfl (by decide)) (by decide)) rfl (by decide) (by decide) rfl (.inl rfl))
  (ai (av (i:=7) (d:=1) (ds':=[1,0,0,0,0,0,1,1,0,0]) nd rfl (.inl rfl) (al (d':=1) (aR (d:=3) (c:=3) ag rfl rfl (by decide)) (by decide)) rfl (by decide) (by decide) rfl (.inl rfl))
  (ai (dP (ds1:=[1,0,0,0,0,0,1,1,0,0]) rfl (kW rfl T.range0 (ae (ad (i:=3) rfl (.inr (.inl rfl)) rfl rfl rfl) ag rfl) rfl) (aD (i:=8) (ds':=[1,0,0,0,0,0,1,1,0,0]) nd rfl (.inr rfl) rfl (by decide) (by decide) (.inl rfl)) (ai (cj (cC (K:=K) (i:=6) (d:=1) rfl rfl (.inl rfl) rfl (al (d':=0) (eJ (fE (K:=K) rfl hr.units) (bf aS hr rfl (aV (i:=0) rfl (.inr (.inl rfl)) (ae (al (d':=0) aj (by decide)) ag rfl) rfl rfl) rfl rfl rfl rfl) aj (aX _)) (by decide)) (by decide) rfl rfl rfl rfl rfl rfl rfl rfl) rfl)
  (ai (fc (ds1:=[1,0,0,0,0,0,1,1,0,0]) (cJ (i:=9) (ds':=[1,0,0,0,0,0,1,1,0,1]) (cd:=0) (d:=1) (dsi:=[0,1,0,0,0]) (lk:=[1,2,3,4]) nd rfl rfl (BlkOkC.of (ns:=["_law_number", "_law_pen_here", "_law_stands", "_law_way", "_law_stand"]) (js:=[none,some 0,some 3,some 4,some 8]) (N0:=dH) (sc0:=aq cF) rfl rfl (by decide +kernel)) rfl (kW rfl T.range0 (ae (ad (i:=1) rfl (.inl rfl) rfl rfl rfl) ag rfl) rfl) (fun _ _ _ _ _=>(aD (i:=0) (ds':=[0,1,0,0,0]) (show (["_law_number", "_law_pen_here", "_law_stands", "_law_way", "_law_stand"]:List Str).Nodup by decide +kernel) rfl (.inl rfl) rfl (by decide) (by decide) (.inr rfl))) (fun _ _ _ _ _=>be) (fun _ _ _ _ _=>(bf oP hr rfl (aV (i:=1) rfl (.inr (.inl rfl)) (ae (ad (i:=4) rfl (.inr (.inl rfl)) rfl rfl rfl) (ae (ad (i:=2) rfl (.inr (.inl rfl)) rfl rfl rfl) (ae (ad (i:=3) rfl (.inr (.inl rfl)) rfl rfl rfl) ag rfl) rfl) rfl) rfl rfl) rfl rfl rfl rfl)) rfl rfl rfl (by decide) rfl (by decide) (by decide) rfl (fun _=>rfl)) rfl)
  (ai (br (ds2:=[1,0,0,0,0,0,1,1,0,0]) (qpt (mE (aP (fE (K:=K) rfl hr.units) (ad (i:=4) rfl (.inr (.inl rfl)) rfl rfl rfl) aj (aX _)) (kS (aP oF (ad (i:=8) rfl (.inr (.inl rfl)) rfl rfl rfl) (ad (i:=5) rfl (.inr (.inl rfl)) rfl rfl rfl) (aX _))))) (ai (oD (i:=6) (d:=1) (c:=0) rfl (.inl rfl) (al (d':=0) bM (by decide)) (ad (i:=8) rfl (.inr (.inl rfl)) rfl rfl rfl) rfl (by decide) rfl rfl rfl (fun _=>rfl) rfl rfl rfl)
  (au (fc (ds1:=[1,0,0,0,0,0,1,1,0,0]) (cJ (i:=9) (ds':=[1,0,0,0,0,0,1,1,0,1]) (cd:=0) (d:=1) (dsi:=[0,0]) (lk:=[1]) nd rfl rfl (BlkOkC.of (ns:=["_law_goal_here", "_law_fence"]) (js:=[none,some 5]) (N0:=dH) (sc0:=aq cF) rfl rfl (by decide +kernel)) rfl (ba (K:=K) rfl (ad (i:=9) rfl (.inl rfl) rfl rfl rfl)) (fun _ _ _ _ _=>(aD (i:=0) (ds':=[0,0]) (show (["_law_goal_here", "_law_fence"]:List Str).Nodup by decide +kernel) rfl (.inl rfl) rfl (by decide) (by decide) (.inr rfl))) (fun _ _ _ _ _=>be) (fun _ _ _ _ _=>(aO (bc (K:=K) rfl) (aR (d:=1) (c:=0) (ae (ad (i:=0) rfl (.inl rfl) rfl rfl rfl) (ae cs ag rfl) rfl) rfl rfl (by decide)) (bi pM rfl T.int0 (by decide +kernel) (ae (al (d':=0) (zg (eJ CQ (ad (i:=0) rfl (.inl rfl) rfl rfl rfl) cs (aX _)) (jJ (eJ xB (ad (i:=0) rfl (.inl rfl) rfl rfl rfl) (ad (i:=1) rfl (.inr (.inl rfl)) rfl rfl rfl) (aX _)))) (by decide)) ag rfl) rfl (by decide) rfl rfl rfl) (fun _ _=>rfl))) rfl rfl rfl (by decide) rfl (by decide) (by decide) rfl (fun _=>rfl)) rfl))) bh)
  (au (cj (cC (K:=K) (i:=7) (d:=1) rfl rfl (.inl rfl) rfl (ad (i:=9) rfl (.inl rfl) rfl rfl rfl) (by decide) rfl rfl rfl rfl rfl rfl rfl rfl) rfl))))) PassesOwn.never (fun _=>rfl))
  (au (aF (eI (d:=0) (c:=0) (ae (cK (ds0:=[1,0,0,0,0,0,0,1,0,0]) (ad (p:=false) (i:=6) rfl (.inl rfl) rfl rfl rfl) rfl) (ae (cK (ds0:=[1,0,0,0,0,0,0,0,0,0]) (ad (p:=false) (i:=7) rfl (.inl rfl) rfl rfl rfl) rfl) ag rfl) rfl) rfl rfl) rfl))))))))
abbrev dC:Stmt:=top 14
abbrev eZ:List Str:=["_law_machine_here", "_law_most", "_law_lists", "_law_ahead"]
theorem sc_law_table:FnScope eZ ["_law_machine_here", "_law_most"] (aq dC):=⟨rfl,rfl,rfl,by decide +kernel,rfl,by decide +kernel,by decide +kernel⟩
def iG:ME:=(eN gw (af (ac 0) ah))
def ly:MT:=(tV (e2 dX (ac 0) (eC .none)))
def lA:ME:=(e2 ixA (ac 1) (ac 0))
def fA:ME:=(eN iJ (af (eLC true (bb (ac 0)) (gN 0) ly lA [none,some 1]) ah))
def iF:MS:=(ak (ar 3 (jL 2 (e1 ig (eC (.int 1)))))
 (bQ (bP 2 (eLC true (bb (e2 ixA (ac 0) (eC (.int 1)))) (gN 0) cY fA [none,some 3]))))
def iE:MT:=(tV (e2 leI (eN bd (af (ac 2) ah)) (ac 1)))
noncomputable def gF:MS:=(ak (ar 2 (aG (af (eLC true (bb (e2 ixA (ac 0) (eC (.int 0)))) (gN 0) cY iG [none]) ah)))
 (ak (cw iE iF)
 (aQ (ac 2))))
noncomputable def bI:List D→Option (D × En):=fnF 2 [0,0] gF
theorem l9 {k:Nat} (T:Bl mg)   (F:Fun K "_law_table" "_law_table" dC f fd):FnOk P w K mg base CX0 (k+1) f fd ["_law_machine_here", "_law_most"] (spF K [0,0] 0 bI):=by
 have nd:=sc_law_table.nd
 refine F.okQ (N:=eZ) (b:=gF) (J:=⟨[],[0,0,0,0],0,[]⟩) (ds0:=[0,0,0,0]) sc_law_table rfl rfl rfl rfl fun cdv A outer s H E hr=>?_
 exact (ai (av (i:=2) (d:=1) (ds':=[0,0,1,0]) nd rfl (.inl rfl) (al (d':=1) (aR (d:=3) (c:=3) (ae (cc (cd:=3) (d:=3) (dsi:=[0]) (lk:=[]) (BlkOkC.of (ns:=["_law_one"]) (js:=[none]) (N0:=eZ) (sc0:=aq dC) rfl rfl (by decide +kernel)) rfl (ba (K:=K) rfl (aO (bc (K:=K) rfl) (ad (i:=0) rfl (.inl rfl) rfl rfl rfl) aj (fun _ _=>rfl))) (fun _ _ _ _ _=>(aD (i:=0) (ds':=[0]) (show (["_law_one"]:List Str).Nodup by decide +kernel) rfl (.inl rfl) rfl (by decide) (by decide) (.inr rfl))) (fun _ _ _ _ _=>be) (fun _ _ _ _ _=>(bi pM rfl T.int0 (by decide +kernel) (ae (ad (i:=0) rfl (.inl rfl) rfl rfl rfl) ag rfl) rfl (by decide) rfl rfl rfl)) rfl rfl (by decide) rfl (fun _=>rfl)) ag rfl) rfl rfl (by decide)) (by decide)) rfl (by decide) (by decide) rfl (.inl rfl))
  (ai (jq (ds:=[0,0,1,0]) (kT (ds0:=[0,0,0,0]) (aP xA (aB (bB (K:=K) rfl) rfl T.len0 (by decide +kernel) (ae (ad (i:=2) rfl (.inl rfl) rfl rfl rfl) ag rfl) rfl (by decide) rfl rfl rfl) (ad (i:=1) rfl (.inl rfl) rfl rfl rfl) (aX _)) rfl) (ai (av (i:=3) (d:=0) (ds':=[0,0,1,0]) nd rfl (.inr rfl) (mM (K:=K) (i:=2) rfl rfl (.inl rfl) rfl (gP iT aj) (fun _ _=>rfl) rfl rfl) rfl (by decide) (by decide) rfl (.inl rfl))
  (au (cj (cC (K:=K) (i:=2) (d:=1) rfl rfl (.inl rfl) rfl (al (d':=0) (cc (cd:=3) (d:=3) (dsi:=[0,0]) (lk:=[1]) (BlkOkC.of (ns:=["_law_row", "_law_ahead"]) (js:=[none,some 3]) (N0:=eZ) (sc0:=aq dC) rfl rfl (by decide +kernel)) rfl (ba (K:=K) rfl (aO (bc (K:=K) rfl) (ad (i:=0) rfl (.inl rfl) rfl rfl rfl) aj (fun _ _=>rfl))) (fun _ _ _ _ _=>(aD (i:=0) (ds':=[0,0]) (show (["_law_row", "_law_ahead"]:List Str).Nodup by decide +kernel) rfl (.inl rfl) rfl (by decide) (by decide) (.inr rfl))) (fun _ _ _ _ _=>be) (fun _ _ _ _ _=>(aB (pL (K:=K) rfl rfl) rfl T.sum0 (by decide +kernel) (ae (al (d':=0) (cc (cd:=0) (d:=1) (dsi:=[0,0]) (lk:=[1]) (BlkOkC.inn (ns:=["_law_goal_here", "_law_ahead"]) (js:=[none,some 1]) (N0:=["_law_row", "_law_ahead"]) rfl rfl (by decide +kernel)) rfl (ba (K:=K) rfl (ad (i:=0) rfl (.inl rfl) rfl rfl rfl)) (fun _ _ _ _ _=>(aD (i:=0) (ds':=[0,0]) (show (["_law_goal_here", "_law_ahead"]:List Str).Nodup by decide +kernel) rfl (.inl rfl) rfl (by decide) (by decide) (.inr rfl))) (fun _ _ _ _ _=>(iR (aP kA (ad (i:=0) rfl (.inl rfl) rfl rfl rfl) cs (aX _)))) (fun _ _ _ _ _=>(aO (bc (K:=K) rfl) (ad (i:=1) rfl (.inr (.inl rfl)) rfl rfl rfl) (ad (i:=0) rfl (.inl rfl) rfl rfl rfl) (fun _ _=>rfl))) rfl rfl (by decide) rfl (fun _=>rfl)) (by decide)) ag rfl) rfl (by decide) rfl rfl rfl)) rfl rfl (by decide) rfl (fun _=>rfl)) (by decide)) (by decide) rfl rfl rfl rfl rfl rfl rfl rfl) rfl))) PassesOwn.never)
  (au (aF (cK (ds0:=[0,0,0,0]) (ad (p:=false) (i:=2) rfl (.inl rfl) rfl rfl rfl) rfl) rfl))))
abbrev db:Stmt:=top 15
abbrev eg:List Str:=["_law_machine_here", "_law_lists", "_law_size", "_law_got", "_law_ahead"]
theorem sc_law_onward:FnScope eg ["_law_machine_here", "_law_lists", "_law_size"] (aq db):=⟨rfl,rfl,rfl,by decide +kernel,rfl,by decide +kernel,by decide +kernel⟩
def hR:ME:=(eN eT (af (ac 0) ah))
def gR:MT:=(tV (e2 dX (ac 0) (eC .none)))
def hC:ME:=(e2 ixA (ac 1) (ac 0))
def eS:ME:=(eN qu (af (eLC true (bb (ac 0)) (gN 0) gR hC [none,some 1]) ah))
def gW:MS:=(ak (ar 4 (jL 3 (e1 ig (eC (.int 1)))))
 (bQ (bP 3 (eLC true (bb (e2 ixA (ac 0) (eC (.int 1)))) (gN 0) cY eS [none,some 4]))))
def gQ:MT:=(tV (e2 ltI (eN bd (af (ac 3) ah)) (ac 2)))
noncomputable def gb:MS:=(ak (ar 3 (eLC true (bb (ac 1)) (gN 0) cY hR [none]))
 (ak (cw gQ gW)
 (aQ (ac 3))))
noncomputable def bv:List D→Option (D × En):=fnF 2 [0,0,0] gb
theorem lw {k:Nat} (T:Bl mg)   (F:Fun K "_law_onward" "_law_onward" db f fd):FnOk P w K mg base CX0 (k+1) f fd ["_law_machine_here", "_law_lists", "_law_size"] (spF K [0,0,0] 0 bv):=by
 have nd:=sc_law_onward.nd
 refine F.okQ (N:=eg) (b:=gb) (J:=⟨[],[0,0,0,0,0],0,[]⟩) (ds0:=[0,0,0,0,0]) sc_law_onward rfl rfl rfl rfl fun cdv A outer s H E hr=>?_
 exact (ai (fc (ds1:=[0,0,0,1,0]) (cJ (i:=3) (ds':=[0,0,0,2,0]) (cd:=1) (d:=2) (dsi:=[0]) (lk:=[]) nd rfl rfl (BlkOkC.of (ns:=["_law_some"]) (js:=[none]) (N0:=eg) (sc0:=aq db) rfl rfl (by decide +kernel)) rfl (ba (K:=K) rfl (ad (i:=1) rfl (.inl rfl) rfl rfl rfl)) (fun _ _ _ _ _=>(aD (i:=0) (ds':=[0]) (show (["_law_some"]:List Str).Nodup by decide +kernel) rfl (.inl rfl) rfl (by decide) (by decide) (.inr rfl))) (fun _ _ _ _ _=>be) (fun _ _ _ _ _=>(bi (fL (K:=K) rfl rfl) rfl T.list0 (by decide +kernel) (ae (ad (i:=0) rfl (.inl rfl) rfl rfl rfl) ag rfl) rfl (by decide) rfl rfl rfl)) rfl rfl rfl (by decide) rfl (by decide) (by decide) rfl (fun _=>rfl)) rfl)
  (ai (jq (ds:=[0,0,0,1,0]) (kT (ds0:=[0,0,0,0,0]) (aP oF (aB (bB (K:=K) rfl) rfl T.len0 (by decide +kernel) (ae (ad (i:=3) rfl (.inl rfl) rfl rfl rfl) ag rfl) rfl (by decide) rfl rfl rfl) (ad (i:=2) rfl (.inl rfl) rfl rfl rfl) (aX _)) rfl) (ai (av (i:=4) (d:=0) (ds':=[0,0,0,1,0]) nd rfl (.inr rfl) (mM (K:=K) (i:=3) rfl rfl (.inl rfl) rfl (gP iT aj) (fun _ _=>rfl) rfl rfl) rfl (by decide) (by decide) rfl (.inl rfl))
  (au (cj (cC (K:=K) (i:=3) (d:=1) rfl rfl (.inl rfl) rfl (al (d':=0) (cc (cd:=3) (d:=3) (dsi:=[0,0]) (lk:=[1]) (BlkOkC.of (ns:=["_law_row", "_law_ahead"]) (js:=[none,some 4]) (N0:=eg) (sc0:=aq db) rfl rfl (by decide +kernel)) rfl (ba (K:=K) rfl (aO (bc (K:=K) rfl) (ad (i:=0) rfl (.inl rfl) rfl rfl rfl) aj (fun _ _=>rfl))) (fun _ _ _ _ _=>(aD (i:=0) (ds':=[0,0]) (show (["_law_row", "_law_ahead"]:List Str).Nodup by decide +kernel) rfl (.inl rfl) rfl (by decide) (by decide) (.inr rfl))) (fun _ _ _ _ _=>be) (fun _ _ _ _ _=>(aB (yQ (K:=K) rfl rfl) rfl T.sum0 (by decide +kernel) (ae (al (d':=0) (cc (cd:=0) (d:=1) (dsi:=[0,0]) (lk:=[1]) (BlkOkC.inn (ns:=["_law_goal_here", "_law_ahead"]) (js:=[none,some 1]) (N0:=["_law_row", "_law_ahead"]) rfl rfl (by decide +kernel)) rfl (ba (K:=K) rfl (ad (i:=0) rfl (.inl rfl) rfl rfl rfl)) (fun _ _ _ _ _=>(aD (i:=0) (ds':=[0,0]) (show (["_law_goal_here", "_law_ahead"]:List Str).Nodup by decide +kernel) rfl (.inl rfl) rfl (by decide) (by decide) (.inr rfl))) (fun _ _ _ _ _=>(iR (aP kA (ad (i:=0) rfl (.inl rfl) rfl rfl rfl) cs (aX _)))) (fun _ _ _ _ _=>(aO (bc (K:=K) rfl) (ad (i:=1) rfl (.inr (.inl rfl)) rfl rfl rfl) (ad (i:=0) rfl (.inl rfl) rfl rfl rfl) (fun _ _=>rfl))) rfl rfl (by decide) rfl (fun _=>rfl)) (by decide)) ag rfl) rfl (by decide) rfl rfl rfl)) rfl rfl (by decide) rfl (fun _=>rfl)) (by decide)) (by decide) rfl rfl rfl rfl rfl rfl rfl rfl) rfl))) PassesOwn.never)
  (au (aF (cK (ds0:=[0,0,0,0,0]) (ad (p:=false) (i:=3) rfl (.inl rfl) rfl rfl rfl) rfl) rfl))))
abbrev eQ:Stmt:=top 16
abbrev gU:List Str:=["_law_machine_here", "_law_thing", "_law_due", "_law_some", "_law_wanted", "_law_one", "_law_other"]
theorem sc_law_is_table:FnScope gU ["_law_machine_here", "_law_thing"] (aq eQ):=⟨rfl,rfl,rfl,by decide +kernel,rfl,by decide +kernel,by decide +kernel⟩
noncomputable def bY:MS:=(sIf (bOr (fV (tV (e1 (aJ "int") (ac 5)))) (bOr (tV (e1 (aJ "bool") (ac 5))) (tV (e2 neD (ac 5) (ac 6))))) (aQ (eC (.bool false))) bD)
noncomputable def dM:MS:=(ak (sIf (bOr (fV (tV (e1 (aJ "list") (ac 3)))) (tV (e2 neD (eN bd (af (ac 3) ah)) (eN bd (af (ac 4) ah))))) (aQ (eC (.bool false))) bD)
 (cR (jf (af (ac 3) (af (ac 4) ah))) (gT (gsC (gN 5) (gsC (gN 6) gs0))) bY))
noncomputable def dt:MS:=(ak (sIf (bOr (fV (tV (e1 (aJ "list") (ac 1)))) (tV (e2 eqD (eN bd (af (ac 1) ah)) (eC (.int 0))))) (aQ (eC (.bool false))) bD)
 (ak (ar 2 (ax bI (af (ac 0) (af (e2 dw (eN bd (af (ac 1) ah)) (eC (.int 1))) ah))))
 (ak (cR (jf (af (ac 1) (af (ac 2) ah))) (gT (gsC (gN 3) (gsC (gN 4) gs0))) dM)
 (aQ (eC (.bool true))))))
noncomputable def bG:List D→Option (D × En):=fnF 5 [0,0] dt
theorem jV {k:Nat} (T:Bl mg)  (e7:Kn P w K mg base k "_law_table" ["_law_machine_here", "_law_most"] (spF K [0,0] 0 bI)) (F:Fun K "_law_is_table" "_law_is_table" eQ f fd):FnOk P w K mg base CX0 (k+1) f fd ["_law_machine_here", "_law_thing"] (spF K [0,0] 3 bG):=by
 have nd:=sc_law_is_table.nd
 refine F.okQ (N:=gU) (b:=dt) (J:=⟨[],[0,0,0,0,0,0,0],3,[]⟩) (ds0:=[0,0,0,0,0,0,0]) sc_law_is_table rfl rfl rfl rfl fun cdv A outer s H E hr=>?_
 exact (ai (br (ds2:=[0,0,0,0,0,0,0]) (qpt (di (dO (cg (cu (K:=K) (n:="list") rfl rfl T.isinstance0 rfl T.list0 (by decide +kernel) (by decide) (ad (i:=1) rfl (.inl rfl) rfl rfl rfl) (by decide) rfl rfl rfl rfl) (fun _=>rfl))) (cU (aP (fE (K:=K) rfl hr.units) (aB (bB (K:=K) rfl) rfl T.len0 (by decide +kernel) (ae (ad (i:=1) rfl (.inl rfl) rfl rfl rfl) ag rfl) rfl (by decide) rfl rfl rfl) aj (aX _))))) (au (aF bM rfl)) bh)
  (ai (av (i:=2) (d:=0) (ds':=[0,0,0,0,0,0,0]) nd rfl (.inl rfl) (bo e7 hr rfl (ae (ad (i:=0) rfl (.inl rfl) rfl rfl rfl) (ae (al (d':=0) (am iS (aB (bB (K:=K) rfl) rfl T.len0 (by decide +kernel) (ae (ad (i:=1) rfl (.inl rfl) rfl rfl rfl) ag rfl) rfl (by decide) rfl rfl rfl) aj) (by decide)) ag rfl) rfl) rfl rfl rfl rfl rfl) rfl (by decide) (by decide) rfl (.inl rfl))
  (ai (dP (ds1:=[0,0,0,0,0,0,0]) rfl (mL (K:=K) rfl rfl T.zip0 (ae (ad (i:=1) rfl (.inl rfl) rfl rfl rfl) (ae (ad (i:=2) rfl (.inl rfl) rfl rfl rfl) ag rfl) rfl) rfl rfl) (kY (K:=K) rfl rfl (eV (aD (i:=3) (ds':=[0,0,0,0,0,0,0]) nd rfl (.inl rfl) rfl (by decide) (by decide) (.inl rfl)) (eV (aD (i:=4) (ds':=[0,0,0,0,0,0,0]) nd rfl (.inl rfl) rfl (by decide) (by decide) (.inl rfl)) j7 rfl) rfl) kz rfl rfl) (ai (br (ds2:=[0,0,0,0,0,0,0]) (qpt (di (dO (cg (cu (K:=K) (n:="list") rfl rfl T.isinstance0 rfl T.list0 (by decide +kernel) (by decide) (ad (i:=3) rfl (.inl rfl) rfl rfl rfl) (by decide) rfl rfl rfl rfl) (fun _=>rfl))) (cU (aP (jg (K:=K) rfl hr.units) (aB (bB (K:=K) rfl) rfl T.len0 (by decide +kernel) (ae (ad (i:=3) rfl (.inl rfl) rfl rfl rfl) ag rfl) rfl (by decide) rfl rfl rfl) (aB (bB (K:=K) rfl) rfl T.len0 (by decide +kernel) (ae (ad (i:=4) rfl (.inl rfl) rfl rfl rfl) ag rfl) rfl (by decide) rfl rfl rfl) (aX _))))) (au (aF bM rfl)) bh)
  (au (dP (ds1:=[0,0,0,0,0,0,0]) rfl (mL (K:=K) rfl rfl T.zip0 (ae (ad (i:=3) rfl (.inl rfl) rfl rfl rfl) (ae (ad (i:=4) rfl (.inl rfl) rfl rfl rfl) ag rfl) rfl) rfl rfl) (kY (K:=K) rfl rfl (eV (aD (i:=5) (ds':=[0,0,0,0,0,0,0]) nd rfl (.inl rfl) rfl (by decide) (by decide) (.inl rfl)) (eV (aD (i:=6) (ds':=[0,0,0,0,0,0,0]) nd rfl (.inl rfl) rfl (by decide) (by decide) (.inl rfl)) j7 rfl) rfl) kz rfl rfl) (au (br (ds2:=[0,0,0,0,0,0,0]) (qpt (di (dO (cg (cu (K:=K) (n:="int") rfl rfl T.isinstance0 rfl T.int0 (by decide +kernel) (by decide) (ad (i:=5) rfl (.inl rfl) rfl rfl rfl) (by decide) rfl rfl rfl rfl) (fun _=>rfl))) (di (cg (cu (K:=K) (n:="bool") rfl rfl T.isinstance0 rfl T.bool0 (by decide +kernel) (by decide) (ad (i:=5) rfl (.inl rfl) rfl rfl rfl) (by decide) rfl rfl rfl rfl) (fun _=>rfl)) (cU (aP (jg (K:=K) rfl hr.units) (ad (i:=5) rfl (.inl rfl) rfl rfl rfl) (ad (i:=6) rfl (.inl rfl) rfl rfl rfl) (aX _)))))) (au (aF bM rfl)) bh)) PassesOwn.never (fun _=>rfl)))) PassesOwn.never (fun _=>rfl))
  (au (aF bM rfl)))))
abbrev gj:Stmt:=top 17
abbrev i6:List Str:=["_law_lists", "_law_at", "_law_stand", "_law_thing", "_law_bent_here"]
theorem sc_law_put:FnScope i6 ["_law_lists", "_law_at", "_law_stand", "_law_thing"] (aq gj):=⟨rfl,rfl,rfl,by decide +kernel,rfl,by decide +kernel,by decide +kernel⟩
def jw:ME:=(eN eT (af (ac 0) ah))
def jb:MS:=(ak (ar 4 (eLC true (bb (ac 0)) (gN 0) cY jw [none]))
 (ak (fB 4 (pIx 4 (fQ 4) (ac 1)) (ac 2) (ac 3))
 (aQ (ac 4))))
def dS:List D→Option (D × En):=fnF 1 [0,0,0,0] jb
theorem nZ {k:Nat} (T:Bl mg)   (F:Fun K "_law_put" "_law_put" gj f fd):FnOk P w K mg base CX0 (k+1) f fd ["_law_lists", "_law_at", "_law_stand", "_law_thing"] (spF K [0,0,0,0] 0 dS):=by
 have nd:=sc_law_put.nd
 refine F.okQ (N:=i6) (b:=jb) (J:=⟨[],[0,0,0,0,0],0,[]⟩) (ds0:=[0,0,0,0,0]) sc_law_put rfl rfl rfl rfl fun cdv A outer s H E hr=>?_
 exact (ai (cJ (i:=4) (ds':=[0,0,0,0,2]) (cd:=1) (d:=2) (dsi:=[0]) (lk:=[]) nd rfl rfl (BlkOkC.of (ns:=["_law_some"]) (js:=[none]) (N0:=i6) (sc0:=aq gj) rfl rfl (by decide +kernel)) rfl (ba (K:=K) rfl (ad (i:=0) rfl (.inl rfl) rfl rfl rfl)) (fun _ _ _ _ _=>(aD (i:=0) (ds':=[0]) (show (["_law_some"]:List Str).Nodup by decide +kernel) rfl (.inl rfl) rfl (by decide) (by decide) (.inr rfl))) (fun _ _ _ _ _=>be) (fun _ _ _ _ _=>(bi (fL (K:=K) rfl rfl) rfl T.list0 (by decide +kernel) (ae (ad (i:=0) rfl (.inl rfl) rfl rfl rfl) ag rfl) rfl (by decide) rfl rfl rfl)) rfl rfl rfl (by decide) rfl (by decide) (by decide) rfl (fun _=>rfl))
  (ai (j6 (p:=false) (i:=4) (d:=2) rfl (ad (i:=3) rfl (.inl rfl) rfl rfl rfl) (mF (i:=4) (d:=2) rfl rfl (kU (i:=4) rfl (.inl rfl) rfl rfl) (ad (i:=1) rfl (.inl rfl) rfl rfl rfl) (by decide) (by first | exact .inl rfl | exact .inr rfl) (fun _ _=>rfl)) (ad (i:=2) rfl (.inl rfl) rfl rfl rfl) (by decide) rfl (by first | exact .inl rfl | exact .inr rfl) (fun _=>rfl) rfl rfl rfl)
  (au (aF (cK (ds0:=[0,0,0,0,0]) (ad (p:=false) (i:=4) rfl (.inl rfl) rfl rfl rfl) rfl) rfl))))
abbrev fH:Stmt:=top 18
abbrev iz:List Str:=["_law_pen_here", "_law_machine_here", "_law_lists", "_law_at", "_law_other", "_law_stand", "_law_by", "_law_held", "_law_got", "_law_far", "_law_things", "_law_thing", "_law_bent_here", "_law_flipped", "_law_swapped", "_law_some"]
theorem sc_law_bent:FnScope iz ["_law_pen_here", "_law_machine_here", "_law_lists"] (aq fH):=⟨rfl,rfl,rfl,by decide +kernel,rfl,by decide +kernel,by decide +kernel⟩
noncomputable def ei:MS:=(ak (ar 12 (ax dS (af (ac 2) (af (ac 3) (af (ac 5) (af (ac 11) ah))))))
 (ak (bQ (bP 8 (ac 12)))
 (sIf (tV (e1 (aJ "int") (ac 11))) (bQ (bP 8 (ax bv (af (ac 1) (af (eSl cn (ac 12) b9 (bR (e2 aZ (ac 3) (eC (.int 1))))) (af (eN bd (af (ac 2) ah)) ah)))))) bD)))
noncomputable def fZ:ME:=(eN eT (af (ac 0) ah))
noncomputable def eh:MS:=(bQ (bP 8 (e2 bE (e2 bE (eSl cn (ac 2) b9 (bR (ac 3))) (aG (af (ac 11) ah))) (eSl cn (ac 2) (bR (e2 aZ (ac 3) (eC (.int 1)))) b9))))
noncomputable def iC:MS:=(ak (ar 3 (ax ap (aH 0 (af (eN bd (af (ac 2) ah)) ah))))
 (ak (ar 4 (ax ap (aH 0 (af (eN bd (af (ac 2) ah)) ah))))
 (ak (ar 5 (ax ap (aH 0 (af (eN bd (af (e2 ixA (ac 1) (eC (.int 0))) ah)) ah))))
 (ak (ar 6 (e2 aZ (eC (.int 1)) (ax ap (aH 0 (af (eC (.int 3)) ah)))))
 (ak (ar 7 (e2 ixA (e2 ixA (ac 2) (ac 3)) (ac 5)))
 (ak (ar 8 (aG ah))
 (ak (ar 9 (e2 aZ (ac 7) (e2 cy (e2 gp (eC (.int 10)) (eC (.int 60))) (e2 gp (eC (.int 10)) (eC (.int 10))))))
 (ak (ar 10 (aG (af (e2 aZ (ac 7) (ac 6)) (af (e2 dw (ac 7) (ac 6)) (af (ac 9) (af (e2 dw (eC (.int 0)) (ac 7)) (af (eC (.bool true)) (af (eC (.bool false)) (af (eC .none) ah)))))))))
 (ak (cR (bb (e2 bE (ac 10) (aG (af (eN nS (af (ac 7) ah)) (af (aG (af (ac 7) ah)) (af (cN (af (ac 7) ah)) ah)))))) (gN 11) ei)
 (ak (ar 13 (aG (af (eN eT (af (e2 ixA (ac 2) (eC (.int 0))) ah)) ah)))
 (ak (fB 13 (pIx 13 (fQ 13) (eC (.int 0))) (ac 5) (e2 dw (eC (.int 1)) (e2 ixA (e2 ixA (ac 13) (eC (.int 0))) (ac 5))))
 (ak (bQ (bP 8 (ax bv (af (ac 1) (af (ac 13) (af (eN bd (af (ac 2) ah)) ah))))))
 (ak (ar 8 (e2 bE (ac 8) (aG (af (e2 bE (eSl cn (ac 2) b9 (bR (ac 3))) (eSl cn (ac 2) (bR (e2 aZ (ac 3) (eC (.int 1)))) b9)) (af (e2 jC (ac 2) (e1 ig (eC (.int 1)))) (af (eSl cn (ac 2) (bR (eC (.int 1))) b9) ah))))))
 (ak (bQ (bP 8 (e2 bE (e2 bE (eSl cn (ac 2) b9 (bR (ac 3))) (aG (af (e2 ixA (ac 2) (ac 3)) ah))) (eSl cn (ac 2) (bR (ac 3)) b9))))
 (ak (ar 14 (eLC true (bb (ac 2)) (gN 0) cY fZ [none]))
 (ak (jB (cN (af (e2 ixA (ac 2) (ac 4)) (af (e2 ixA (ac 2) (ac 3)) ah))) (gT (gsC (gS 14 3) (gsC (gS 14 4) gs0))))
 (ak (ar 15 (e2 ixA (ac 2) (ac 3)))
 (ak (ar 8 (e2 bE (ac 8) (aG (af (ac 14) (af (eN jy (af (ac 2) ah)) (af (aG (af (ac 2) ah)) (af (e2 bE (ac 2) (aG (af (aG ah) ah))) (af (e2 bE (ac 2) (aG (af (eC .none) ah))) ah))))))))
 (ak (cR (bb (cN (af (e2 bE (ac 15) (aG (af (eC (.int 0)) ah))) (af (eSl cn (ac 15) b9 (bR (e1 ig (eC (.int 1))))) (af (eN jy (af (ac 15) ah)) (af (fG [((eC (.int 0)),(ac 7))]) (af (eC .none) ah))))))) (gN 11) eh)
 (aQ (e2 bE (ac 8) (aG (af (aG (af (aG ah) ah)) (af (aG ah) (af (eC .none) (af (eC (.bool true)) (af (eC (.int 0)) (af (eC (.str "table")) (af kc (af (e2 ixA (ac 2) (eC (.int 0))) (af (cN ah) ah)))))))))))))))))))))))))))))))
noncomputable def dq:List D→Option (D × En):=fnF 13 [1,0,0] iC
theorem m7 {k:Nat} (T:Bl mg)  (aS:Kn P w K mg base k "_law_take" ["_law_pen_here", "_law_most"] (spF K [1,0] 0 ap)) (qc:Kn P w K mg base k "_law_put" ["_law_lists", "_law_at", "_law_stand", "_law_thing"] (spF K [0,0,0,0] 0 dS)) (i8:Kn P w K mg base k "_law_onward" ["_law_machine_here", "_law_lists", "_law_size"] (spF K [0,0,0] 0 bv)) (F:Fun K "_law_bent" "_law_bent" fH f fd):FnOk P w K mg base CX0 (k+1) f fd ["_law_pen_here", "_law_machine_here", "_law_lists"] (spF K [1,0,0] 1 dq):=by
 have nd:=sc_law_bent.nd
 refine F.okQ (N:=iz) (b:=iC) (J:=⟨[0],[1,0,0,0,0,0,0,0,0,0,0,0,0,0,0,0],1,[]⟩) (ds0:=[1,0,0,0,0,0,0,0,0,0,0,0,0,0,0,0]) sc_law_bent rfl rfl rfl rfl fun cdv A outer s H E hr=>?_
 exact (ai (av (i:=3) (d:=0) (ds':=[1,0,0,0,0,0,0,0,0,0,0,0,0,0,0,0]) nd rfl (.inl rfl) (bf aS hr rfl (aV (i:=0) rfl (.inl rfl) (ae (al (d':=0) (aB (bB (K:=K) rfl) rfl T.len0 (by decide +kernel) (ae (ad (i:=2) rfl (.inl rfl) rfl rfl rfl) ag rfl) rfl (by decide) rfl rfl rfl) (by decide)) ag rfl) rfl rfl) rfl rfl rfl rfl) rfl (by decide) (by decide) rfl (.inl rfl))
  (ai (av (i:=4) (d:=0) (ds':=[1,0,0,0,0,0,0,0,0,0,0,0,0,0,0,0]) nd rfl (.inl rfl) (bf aS hr rfl (aV (i:=0) rfl (.inl rfl) (ae (al (d':=0) (aB (bB (K:=K) rfl) rfl T.len0 (by decide +kernel) (ae (ad (i:=2) rfl (.inl rfl) rfl rfl rfl) ag rfl) rfl (by decide) rfl rfl rfl) (by decide)) ag rfl) rfl rfl) rfl rfl rfl rfl) rfl (by decide) (by decide) rfl (.inl rfl))
  (ai (av (i:=5) (d:=0) (ds':=[1,0,0,0,0,0,0,0,0,0,0,0,0,0,0,0]) nd rfl (.inl rfl) (bf aS hr rfl (aV (i:=0) rfl (.inl rfl) (ae (al (d':=0) (aB (bB (K:=K) rfl) rfl T.len0 (by decide +kernel) (ae (aO (bc (K:=K) rfl) (ad (i:=1) rfl (.inl rfl) rfl rfl rfl) aj (fun _ _=>rfl)) ag rfl) rfl (by decide) rfl rfl rfl) (by decide)) ag rfl) rfl rfl) rfl rfl rfl rfl) rfl (by decide) (by decide) rfl (.inl rfl))
  (ai (av (i:=6) (d:=0) (ds':=[1,0,0,0,0,0,0,0,0,0,0,0,0,0,0,0]) nd rfl (.inl rfl) (al (d':=0) (am bt aj (bf aS hr rfl (aV (i:=0) rfl (.inl rfl) (ae (al (d':=0) aj (by decide)) ag rfl) rfl rfl) rfl rfl rfl rfl)) (by decide)) rfl (by decide) (by decide) rfl (.inl rfl))
  (ai (av (i:=7) (d:=0) (ds':=[1,0,0,0,0,0,0,0,0,0,0,0,0,0,0,0]) nd rfl (.inl rfl) (aO (bc (K:=K) rfl) (aO (bc (K:=K) rfl) (ad (i:=2) rfl (.inl rfl) rfl rfl rfl) (ad (i:=3) rfl (.inl rfl) rfl rfl rfl) (fun _ _=>rfl)) (ad (i:=5) rfl (.inl rfl) rfl rfl rfl) (fun _ _=>rfl)) rfl (by decide) (by decide) rfl (.inl rfl))
  (ai (av (i:=8) (d:=1) (ds':=[1,0,0,0,0,0,0,0,1,0,0,0,0,0,0,0]) nd rfl (.inl rfl) (al (d':=1) (aR (d:=3) (c:=3) ag rfl rfl (by decide)) (by decide)) rfl (by decide) (by decide) rfl (.inl rfl))
  (ai (av (i:=9) (d:=0) (ds':=[1,0,0,0,0,0,0,0,1,0,0,0,0,0,0,0]) nd rfl (.inl rfl) (al (d':=0) (am bt (ad (i:=7) rfl (.inl rfl) rfl rfl rfl) (am ff (am mJ aj aj) (am mJ aj aj))) (by decide)) rfl (by decide) (by decide) rfl (.inl rfl))
  (ai (av (i:=10) (d:=0) (ds':=[1,0,0,0,0,0,0,0,1,0,0,0,0,0,0,0]) nd rfl (.inl rfl) (al (d':=0) (aR (d:=1) (c:=0) (ae (am bt (ad (i:=7) rfl (.inl rfl) rfl rfl rfl) (ad (i:=6) rfl (.inl rfl) rfl rfl rfl)) (ae (am iS (ad (i:=7) rfl (.inl rfl) rfl rfl rfl) (ad (i:=6) rfl (.inl rfl) rfl rfl rfl)) (ae (ad (i:=9) rfl (.inl rfl) rfl rfl rfl) (ae (am iS aj (ad (i:=7) rfl (.inl rfl) rfl rfl rfl)) (ae bM (ae bM (ae cs ag rfl) rfl) rfl) rfl) rfl) rfl) rfl) rfl rfl (by decide)) (by decide)) rfl (by decide) (by decide) rfl (.inl rfl))
  (ai (dP (ds1:=[1,0,0,0,0,0,0,0,1,0,0,0,0,0,0,0]) rfl (ba (K:=K) rfl (al (d':=0) (am (bL (K:=K) rfl) (ad (i:=10) rfl (.inl rfl) rfl rfl rfl) (aR (d:=1) (c:=0) (ae (bi yR rfl T.str0 (by decide +kernel) (ae (ad (i:=7) rfl (.inl rfl) rfl rfl rfl) ag rfl) rfl (by decide) rfl rfl rfl) (ae (aR (d:=1) (c:=0) (ae (ad (i:=7) rfl (.inl rfl) rfl rfl rfl) ag rfl) rfl rfl (by decide)) (ae (eI (d:=0) (c:=0) (ae (ad (i:=7) rfl (.inl rfl) rfl rfl rfl) ag rfl) rfl rfl) ag rfl) rfl) rfl) rfl rfl (by decide))) (by decide))) (aD (i:=11) (ds':=[1,0,0,0,0,0,0,0,1,0,0,0,0,0,0,0]) nd rfl (.inl rfl) rfl (by decide) (by decide) (.inl rfl)) (ai (av (i:=12) (d:=0) (ds':=[1,0,0,0,0,0,0,0,1,0,0,0,0,0,0,0]) nd rfl (.inl rfl) (bo qc hr rfl (ae (ad (i:=2) rfl (.inl rfl) rfl rfl rfl) (ae (ad (i:=3) rfl (.inl rfl) rfl rfl rfl) (ae (ad (i:=5) rfl (.inl rfl) rfl rfl rfl) (ae (ad (i:=11) rfl (.inl rfl) rfl rfl rfl) ag rfl) rfl) rfl) rfl) rfl rfl rfl rfl rfl) rfl (by decide) (by decide) rfl (.inl rfl))
  (ai (cj (cC (K:=K) (i:=8) (d:=1) rfl rfl (.inl rfl) rfl (ad (i:=12) rfl (.inl rfl) rfl rfl rfl) (by decide) rfl rfl rfl rfl rfl rfl rfl rfl) rfl)
  (au (br (ds2:=[1,0,0,0,0,0,0,0,1,0,0,0,0,0,0,0]) (cg (cu (K:=K) (n:="int") rfl rfl T.isinstance0 rfl T.int0 (by decide +kernel) (by decide) (ad (i:=11) rfl (.inl rfl) rfl rfl rfl) (by decide) rfl rfl rfl rfl) (fun _=>rfl)) (au (cj (cC (K:=K) (i:=8) (d:=1) rfl rfl (.inl rfl) rfl (bo i8 hr rfl (ae (ad (i:=1) rfl (.inl rfl) rfl rfl rfl) (ae (al (d':=0) (bT (dk (K:=K) rfl) (ad (i:=12) rfl (.inl rfl) rfl rfl rfl) cm (ck (am bt (ad (i:=3) rfl (.inl rfl) rfl rfl rfl) aj))) (by decide)) (ae (al (d':=0) (aB (bB (K:=K) rfl) rfl T.len0 (by decide +kernel) (ae (ad (i:=2) rfl (.inl rfl) rfl rfl rfl) ag rfl) rfl (by decide) rfl rfl rfl) (by decide)) ag rfl) rfl) rfl) rfl rfl rfl rfl rfl) (by decide) rfl rfl rfl rfl rfl rfl rfl rfl) rfl)) bh)))) PassesOwn.never (fun _=>rfl))
  (ai (av (i:=13) (d:=2) (ds':=[1,0,0,0,0,0,0,0,1,0,0,0,0,2,0,0]) nd rfl (.inl rfl) (aR (d:=2) (c:=1) (ae (bi (fL (K:=K) rfl rfl) rfl T.list0 (by decide +kernel) (ae (aO (bc (K:=K) rfl) (ad (i:=2) rfl (.inl rfl) rfl rfl rfl) aj (fun _ _=>rfl)) ag rfl) rfl (by decide) rfl rfl rfl) ag rfl) rfl rfl (by decide)) rfl (by decide) (by decide) rfl (.inl rfl))
  (ai (j6 (p:=false) (i:=13) (d:=2) rfl (al (d':=0) (rp (ds0:=[1,0,0,0,0,0,0,0,1,0,0,0,0,0,0,0]) (am iS aj (aO (bc (K:=K) rfl) (aO (bc (K:=K) rfl) (ad (i:=13) rfl (.inl rfl) rfl rfl rfl) aj (fun _ _=>rfl)) (ad (i:=5) rfl (.inl rfl) rfl rfl rfl) (fun _ _=>rfl))) rfl) (by decide)) (mF (i:=13) (d:=2) rfl rfl (kU (i:=13) rfl (.inl rfl) rfl rfl) aj (by decide) (by first | exact .inl rfl | exact .inr rfl) (fun _ _=>rfl)) (ad (i:=5) rfl (.inl rfl) rfl rfl rfl) (by decide) rfl (by first | exact .inl rfl | exact .inr rfl) (fun _=>rfl) rfl rfl rfl)
  (ai (cj (cC (K:=K) (i:=8) (d:=1) rfl rfl (.inl rfl) rfl (bo i8 hr rfl (ae (ad (i:=1) rfl (.inl rfl) rfl rfl rfl) (ae (cK (ds0:=[1,0,0,0,0,0,0,0,1,0,0,0,0,0,0,0]) (ad (p:=false) (i:=13) rfl (.inl rfl) rfl rfl rfl) rfl) (ae (al (d':=0) (aB (bB (K:=K) rfl) rfl T.len0 (by decide +kernel) (ae (ad (i:=2) rfl (.inl rfl) rfl rfl rfl) ag rfl) rfl (by decide) rfl rfl rfl) (by decide)) ag rfl) rfl) rfl) rfl rfl rfl rfl rfl) (by decide) rfl rfl rfl rfl rfl rfl rfl rfl) rfl)
  (ai (av (i:=8) (d:=1) (ds':=[1,0,0,0,0,0,0,0,1,0,0,0,0,0,0,0]) nd rfl (.inl rfl) (am (bL (K:=K) rfl) (cK (ds0:=[1,0,0,0,0,0,0,0,0,0,0,0,0,0,0,0]) (ad (p:=false) (i:=8) rfl (.inl rfl) rfl rfl rfl) rfl) (aR (d:=2) (c:=1) (ae (am (bL (K:=K) rfl) (bT (dk (K:=K) rfl) (ad (i:=2) rfl (.inl rfl) rfl rfl rfl) cm (ck (ad (i:=3) rfl (.inl rfl) rfl rfl rfl))) (bT (dk (K:=K) rfl) (ad (i:=2) rfl (.inl rfl) rfl rfl rfl) (ck (am bt (ad (i:=3) rfl (.inl rfl) rfl rfl rfl) aj)) cm)) (ae (kZ (K:=K) rfl (ad (i:=2) rfl (.inl rfl) rfl rfl rfl) (gP iT aj)) (ae (bT (dk (K:=K) rfl) (ad (i:=2) rfl (.inl rfl) rfl rfl rfl) (ck aj) cm) ag rfl) rfl) rfl) rfl rfl (by decide))) rfl (by decide) (by decide) rfl (.inl rfl))
  (ai (cj (cC (K:=K) (i:=8) (d:=1) rfl rfl (.inl rfl) rfl (al (d':=0) (am (bL (K:=K) rfl) (am (bL (K:=K) rfl) (bT (dk (K:=K) rfl) (ad (i:=2) rfl (.inl rfl) rfl rfl rfl) cm (ck (ad (i:=3) rfl (.inl rfl) rfl rfl rfl))) (aR (d:=1) (c:=0) (ae (aO (bc (K:=K) rfl) (ad (i:=2) rfl (.inl rfl) rfl rfl rfl) (ad (i:=3) rfl (.inl rfl) rfl rfl rfl) (fun _ _=>rfl)) ag rfl) rfl rfl (by decide))) (bT (dk (K:=K) rfl) (ad (i:=2) rfl (.inl rfl) rfl rfl rfl) (ck (ad (i:=3) rfl (.inl rfl) rfl rfl rfl)) cm)) (by decide)) (by decide) rfl rfl rfl rfl rfl rfl rfl rfl) rfl)
  (ai (fc (ds1:=[1,0,0,0,0,0,0,0,1,0,0,0,0,0,1,0]) (cJ (i:=14) (ds':=[1,0,0,0,0,0,0,0,1,0,0,0,0,0,2,0]) (cd:=1) (d:=2) (dsi:=[0]) (lk:=[]) nd rfl rfl (BlkOkC.of (ns:=["_law_some"]) (js:=[none]) (N0:=iz) (sc0:=aq fH) rfl rfl (by decide +kernel)) rfl (ba (K:=K) rfl (ad (i:=2) rfl (.inl rfl) rfl rfl rfl)) (fun _ _ _ _ _=>(aD (i:=0) (ds':=[0]) (show (["_law_some"]:List Str).Nodup by decide +kernel) rfl (.inl rfl) rfl (by decide) (by decide) (.inr rfl))) (fun _ _ _ _ _=>be) (fun _ _ _ _ _=>(bi (fL (K:=K) rfl rfl) rfl T.list0 (by decide +kernel) (ae (ad (i:=0) rfl (.inl rfl) rfl rfl rfl) ag rfl) rfl (by decide) rfl rfl rfl)) rfl rfl rfl (by decide) rfl (by decide) (by decide) rfl (fun _=>rfl)) rfl)
  (ai (oE rfl (eI (d:=0) (c:=0) (ae (aO (bc (K:=K) rfl) (ad (i:=2) rfl (.inl rfl) rfl rfl rfl) (ad (i:=4) rfl (.inl rfl) rfl rfl rfl) (fun _ _=>rfl)) (ae (aO (bc (K:=K) rfl) (ad (i:=2) rfl (.inl rfl) rfl rfl rfl) (ad (i:=3) rfl (.inl rfl) rfl rfl rfl) (fun _ _=>rfl)) ag rfl) rfl) rfl rfl) (pR (K:=K) rfl rfl (jr (kX (i:=14) (j:=3) rfl (.inl rfl) rfl (.inl rfl) rfl rfl rfl rfl rfl (fun _=>rfl)) (jr (kX (i:=14) (j:=4) rfl (.inl rfl) rfl (.inl rfl) rfl rfl rfl rfl rfl (fun _=>rfl)) oG rfl) rfl) kz rfl rfl) rfl rfl rfl)
  (ai (av (i:=15) (d:=0) (ds':=[1,0,0,0,0,0,0,0,1,0,0,0,0,0,1,0]) nd rfl (.inl rfl) (aO (bc (K:=K) rfl) (ad (i:=2) rfl (.inl rfl) rfl rfl rfl) (ad (i:=3) rfl (.inl rfl) rfl rfl rfl) (fun _ _=>rfl)) rfl (by decide) (by decide) rfl (.inl rfl))
  (ai (av (i:=8) (d:=1) (ds':=[1,0,0,0,0,0,0,0,1,0,0,0,0,0,0,0]) nd rfl (.inl rfl) (am (bL (K:=K) rfl) (cK (ds0:=[1,0,0,0,0,0,0,0,0,0,0,0,0,0,1,0]) (ad (p:=false) (i:=8) rfl (.inl rfl) rfl rfl rfl) rfl) (aR (d:=1) (c:=0) (ae (cK (ds0:=[1,0,0,0,0,0,0,0,0,0,0,0,0,0,0,0]) (ad (p:=false) (i:=14) rfl (.inl rfl) rfl rfl rfl) rfl) (ae (bi (mH (K:=K) rfl) rfl T.tuple0 (by decide +kernel) (ae (ad (i:=2) rfl (.inl rfl) rfl rfl rfl) ag rfl) rfl (by decide) rfl rfl rfl) (ae (aR (d:=1) (c:=0) (ae (ad (i:=2) rfl (.inl rfl) rfl rfl rfl) ag rfl) rfl rfl (by decide)) (ae (am (bL (K:=K) rfl) (ad (i:=2) rfl (.inl rfl) rfl rfl rfl) (aR (d:=3) (c:=3) (ae (aR (d:=3) (c:=3) ag rfl rfl (by decide)) ag rfl) rfl rfl (by decide))) (ae (am (bL (K:=K) rfl) (ad (i:=2) rfl (.inl rfl) rfl rfl rfl) (aR (d:=3) (c:=3) (ae cs ag rfl) rfl rfl (by decide))) ag rfl) rfl) rfl) rfl) rfl) rfl rfl (by decide))) rfl (by decide) (by decide) rfl (.inl rfl))
  (ai (dP (ds1:=[1,0,0,0,0,0,0,0,1,0,0,0,0,0,0,0]) rfl (ba (K:=K) rfl (eI (d:=0) (c:=0) (ae (am (bL (K:=K) rfl) (ad (i:=15) rfl (.inl rfl) rfl rfl rfl) (aR (d:=3) (c:=3) (ae aj ag rfl) rfl rfl (by decide))) (ae (bT (dk (K:=K) rfl) (ad (i:=15) rfl (.inl rfl) rfl rfl rfl) cm (ck (gP iT aj))) (ae (bi (mH (K:=K) rfl) rfl T.tuple0 (by decide +kernel) (ae (ad (i:=15) rfl (.inl rfl) rfl rfl rfl) ag rfl) rfl (by decide) rfl rfl rfl) (ae (k6 (fs:=[((eC (.int 0)),(ac 7))]) (gi aj (ad (i:=7) rfl (.inl rfl) rfl rfl rfl) mG) rfl rfl (fun z=>nomatch z) (by decide)) (ae cs ag rfl) rfl) rfl) rfl) rfl) rfl rfl)) (aD (i:=11) (ds':=[1,0,0,0,0,0,0,0,1,0,0,0,0,0,0,0]) nd rfl (.inl rfl) rfl (by decide) (by decide) (.inl rfl)) (au (cj (cC (K:=K) (i:=8) (d:=1) rfl rfl (.inl rfl) rfl (al (d':=0) (am (bL (K:=K) rfl) (am (bL (K:=K) rfl) (bT (dk (K:=K) rfl) (ad (i:=2) rfl (.inl rfl) rfl rfl rfl) cm (ck (ad (i:=3) rfl (.inl rfl) rfl rfl rfl))) (aR (d:=1) (c:=0) (ae (ad (i:=11) rfl (.inl rfl) rfl rfl rfl) ag rfl) rfl rfl (by decide))) (bT (dk (K:=K) rfl) (ad (i:=2) rfl (.inl rfl) rfl rfl rfl) (ck (am bt (ad (i:=3) rfl (.inl rfl) rfl rfl rfl) aj)) cm)) (by decide)) (by decide) rfl rfl rfl rfl rfl rfl rfl rfl) rfl)) PassesOwn.never (fun _=>rfl))
  (au (aF (am (bL (K:=K) rfl) (cK (ds0:=[1,0,0,0,0,0,0,0,0,0,0,0,0,0,0,0]) (ad (p:=false) (i:=8) rfl (.inl rfl) rfl rfl rfl) rfl) (aR (d:=1) (c:=0) (ae (aR (d:=3) (c:=3) (ae (aR (d:=3) (c:=3) ag rfl rfl (by decide)) ag rfl) rfl rfl (by decide)) (ae (aR (d:=3) (c:=3) ag rfl rfl (by decide)) (ae cs (ae bM (ae aj (ae bO (ae pT (ae (aO (bc (K:=K) rfl) (ad (i:=2) rfl (.inl rfl) rfl rfl rfl) aj (fun _ _=>rfl)) (ae (eI (d:=3) (c:=3) ag rfl rfl) ag rfl) rfl) rfl) rfl) rfl) rfl) rfl) rfl) rfl) rfl rfl (by decide))) rfl)))))))))))))))))))))
abbrev iu:Stmt:=top 19
abbrev oO:List Str:=["_law_script", "_law_pen_here", "_law_signs_here", "_law_machine_here", "_law_mosts", "_law_things", "_law_handed", "_law_thing", "_law_kept", "_law_told"]
theorem sclaw:FnScope oO ["_law_script"] (aq iu):=⟨rfl,rfl,rfl,by decide +kernel,rfl,by decide +kernel,by decide +kernel⟩
noncomputable def qg:ME:=(ax bI (af (ac 1) (af (ac 0) ah)))
noncomputable def qf:ME:=(eN eT (af (ac 0) ah))
noncomputable def mY:MS:=(ak (ar 8 (eN jU (af (ac 7) ah)))
 (ak (ar 9 (ax bJ (af (ac 6) (af (ac 7) ah))))
 (ak (sIf (bOr (fV (tV (e1 (aJ "bool") (ac 9)))) (tV (e2 neD (ac 9) (ax bG (af (ac 3) (af (ac 7) ah)))))) (aQ (eC (.bool false))) bD)
 (sIf (bOr (tV (e2 neD (eN jU (af (ac 7) ah)) (ac 8))) (tV (e2 neD (ac 6) (ac 3)))) (aQ (eC (.bool false))) bD))))
noncomputable def rK:MS:=(ak (ar 1 (ax cr (af (ac 0) (af (eC (.int 0)) ah))))
 (ak (ar 2 (ax cM (aH 1 ah)))
 (ak (ar 3 (ax ce (aH 1 (af (ac 2) (af (eC (.int 7)) ah)))))
 (ak (ar 4 (aG (af (eC (.int 0)) (af (ax ap (aH 1 (af (eC (.int 6)) ah))) (af (e2 aZ (eC (.int 61)) (ax ap (aH 1 (af (eC (.int 4)) ah)))) ah)))))
 (ak (ar 5 (eLC true (bb (ac 4)) (gN 0) cY qg [none,some 3]))
 (ak (ar 5 (e2 bE (ac 5) (ax dq (af (ax cr (af (ac 0) (af (eC (.int 31)) ah))) (af (ac 3) (af (ax bI (af (ac 3) (af (e2 aZ (eC (.int 1)) (ax ap (aH 1 (af (eC (.int 5)) ah)))) ah))) ah))))))
 (ak (ar 6 (cN (af (eN eT (af (e2 ixA (ac 3) (eC (.int 0))) ah)) (af (eLC true (bb (e2 ixA (ac 3) (eC (.int 1)))) (gN 0) cY qf [none]) ah))))
 (ak (cR (bb (e2 bE (ac 5) (e2 jC (ac 5) (e1 ig (eC (.int 1)))))) (gN 7) mY)
 (aQ (e2 isB (ax bJ (af (ac 6) (af (e2 ixA (ac 5) (eC (.int 1))) ah))) (eC (.bool true))))))))))))
noncomputable def oR:List D→Option (D × En):=fnF 9 [0] rK
theorem D1 {k:Nat} (T:Bl mg)  (lq:Kn P w K mg base k "_law_pen" ["_law_script", "_law_first"] (spF K [0,0] 1 cr)) (nc:Kn P w K mg base k "_law_signs" ["_law_pen_here"] (spF K [1] 0 cM)) (lz:Kn P w K mg base k "_law_machine" ["_law_pen_here", "_law_signs_here", "_law_most"] (spF K [1,0,0] 0 ce)) (aS:Kn P w K mg base k "_law_take" ["_law_pen_here", "_law_most"] (spF K [1,0] 0 ap)) (e7:Kn P w K mg base k "_law_table" ["_law_machine_here", "_law_most"] (spF K [0,0] 0 bI)) (oQ:Kn P w K mg base k "_law_bent" ["_law_pen_here", "_law_machine_here", "_law_lists"] (spF K [1,0,0] 1 dq)) (i7:Kn P w K mg base k "holds_table" ["machine", "thing"] (spF K [0,0] 3 bJ)) (kK:Kn P w K mg base k "_law_is_table" ["_law_machine_here", "_law_thing"] (spF K [0,0] 3 bG)) (F:Fun K "law" "law" iu f fd):FnOk P w K mg base CX0 (k+1) f fd ["_law_script"] (spF K [0] 3 oR):=by
 have nd:=sclaw.nd
 refine F.okQ (N:=oO) (b:=rK) (J:=⟨[],[0,0,0,0,0,0,0,0,0,0],3,[]⟩) (ds0:=[0,0,0,0,0,0,0,0,0,0]) sclaw rfl rfl rfl rfl fun cdv A outer s H E hr=>?_
 exact (ai (av (i:=1) (d:=1) (ds':=[0,1,0,0,0,0,0,0,0,0]) nd rfl (.inl rfl) (bo lq hr rfl (ae (ad (i:=0) rfl (.inl rfl) rfl rfl rfl) (ae (al (d':=0) aj (by decide)) ag rfl) rfl) rfl rfl rfl rfl rfl) rfl (by decide) (by decide) rfl (.inl rfl))
  (ai (av (i:=2) (d:=0) (ds':=[0,1,0,0,0,0,0,0,0,0]) nd rfl (.inl rfl) (bf nc hr rfl (aV (i:=1) rfl (.inl rfl) ag rfl rfl) rfl rfl rfl rfl) rfl (by decide) (by decide) rfl (.inl rfl))
  (ai (av (i:=3) (d:=0) (ds':=[0,1,0,0,0,0,0,0,0,0]) nd rfl (.inr rfl) (bf lz hr rfl (aV (i:=1) rfl (.inl rfl) (ae (ad (i:=2) rfl (.inl rfl) rfl rfl rfl) (ae (al (d':=0) aj (by decide)) ag rfl) rfl) rfl rfl) rfl rfl rfl rfl) rfl (by decide) (by decide) rfl (.inl rfl))
  (ai (av (i:=4) (d:=0) (ds':=[0,1,0,0,0,0,0,0,0,0]) nd rfl (.inl rfl) (al (d':=0) (aR (d:=1) (c:=0) (ae aj (ae (bf aS hr rfl (aV (i:=1) rfl (.inl rfl) (ae (al (d':=0) aj (by decide)) ag rfl) rfl rfl) rfl rfl rfl rfl) (ae (am bt aj (bf aS hr rfl (aV (i:=1) rfl (.inl rfl) (ae (al (d':=0) aj (by decide)) ag rfl) rfl rfl) rfl rfl rfl rfl)) ag rfl) rfl) rfl) rfl rfl (by decide)) (by decide)) rfl (by decide) (by decide) rfl (.inl rfl))
  (ai (fc (ds1:=[0,1,0,0,0,0,0,0,0,0]) (cJ (i:=5) (ds':=[0,1,0,0,0,1,0,0,0,0]) (cd:=0) (d:=1) (dsi:=[0,0]) (lk:=[1]) nd rfl rfl (BlkOkC.of (ns:=["_law_most", "_law_machine_here"]) (js:=[none,some 3]) (N0:=oO) (sc0:=aq iu) rfl rfl (by decide +kernel)) rfl (ba (K:=K) rfl (ad (i:=4) rfl (.inl rfl) rfl rfl rfl)) (fun _ _ _ _ _=>(aD (i:=0) (ds':=[0,0]) (show (["_law_most", "_law_machine_here"]:List Str).Nodup by decide +kernel) rfl (.inl rfl) rfl (by decide) (by decide) (.inr rfl))) (fun _ _ _ _ _=>be) (fun _ _ _ _ _=>(bo e7 hr rfl (ae (ad (i:=1) rfl (.inr (.inl rfl)) rfl rfl rfl) (ae (ad (i:=0) rfl (.inl rfl) rfl rfl rfl) ag rfl) rfl) rfl rfl rfl rfl rfl)) rfl rfl rfl (by decide) rfl (by decide) (by decide) rfl (fun _=>rfl)) rfl)
  (ai (av (i:=5) (d:=0) (ds':=[0,1,0,0,0,0,0,0,0,0]) nd rfl (.inl rfl) (al (d':=0) (am (bL (K:=K) rfl) (ad (i:=5) rfl (.inl rfl) rfl rfl rfl) (bo oQ hr rfl (ae (bo lq hr rfl (ae (ad (i:=0) rfl (.inl rfl) rfl rfl rfl) (ae (al (d':=0) aj (by decide)) ag rfl) rfl) rfl rfl rfl rfl rfl) (ae (ad (i:=3) rfl (.inr (.inl rfl)) rfl rfl rfl) (ae (bo e7 hr rfl (ae (ad (i:=3) rfl (.inr (.inl rfl)) rfl rfl rfl) (ae (al (d':=0) (am bt aj (bf aS hr rfl (aV (i:=1) rfl (.inl rfl) (ae (al (d':=0) aj (by decide)) ag rfl) rfl rfl) rfl rfl rfl rfl)) (by decide)) ag rfl) rfl) rfl rfl rfl rfl rfl) ag rfl) rfl) rfl) rfl rfl rfl rfl rfl)) (by decide)) rfl (by decide) (by decide) rfl (.inl rfl))
  (ai (av (i:=6) (d:=0) (ds':=[0,1,0,0,0,0,0,0,0,0]) nd rfl (.inl rfl) (al (d':=0) (eI (d:=2) (c:=1) (ae (bi (fL (K:=K) rfl rfl) rfl T.list0 (by decide +kernel) (ae (aO (bc (K:=K) rfl) (ad (i:=3) rfl (.inr (.inl rfl)) rfl rfl rfl) aj (fun _ _=>rfl)) ag rfl) rfl (by decide) rfl rfl rfl) (ae (cc (cd:=1) (d:=2) (dsi:=[0]) (lk:=[]) (BlkOkC.of (ns:=["_law_row"]) (js:=[none]) (N0:=oO) (sc0:=aq iu) rfl rfl (by decide +kernel)) rfl (ba (K:=K) rfl (aO (bc (K:=K) rfl) (ad (i:=3) rfl (.inr (.inl rfl)) rfl rfl rfl) aj (fun _ _=>rfl))) (fun _ _ _ _ _=>(aD (i:=0) (ds':=[0]) (show (["_law_row"]:List Str).Nodup by decide +kernel) rfl (.inl rfl) rfl (by decide) (by decide) (.inr rfl))) (fun _ _ _ _ _=>be) (fun _ _ _ _ _=>(bi (fL (K:=K) rfl rfl) rfl T.list0 (by decide +kernel) (ae (ad (i:=0) rfl (.inl rfl) rfl rfl rfl) ag rfl) rfl (by decide) rfl rfl rfl)) rfl rfl (by decide) rfl (fun _=>rfl)) ag rfl) rfl) rfl rfl) (by decide)) rfl (by decide) (by decide) rfl (.inl rfl))
  (ai (dP (ds1:=[0,1,0,0,0,0,0,0,0,0]) rfl (ba (K:=K) rfl (al (d':=0) (am (bL (K:=K) rfl) (ad (i:=5) rfl (.inl rfl) rfl rfl rfl) (kZ (K:=K) rfl (ad (i:=5) rfl (.inl rfl) rfl rfl rfl) (gP iT aj))) (by decide))) (aD (i:=7) (ds':=[0,1,0,0,0,0,0,0,0,0]) nd rfl (.inl rfl) rfl (by decide) (by decide) (.inl rfl)) (ai (av (i:=8) (d:=0) (ds':=[0,1,0,0,0,0,0,0,0,0]) nd rfl (.inl rfl) (al (d':=0) (aB (mI (K:=K) rfl hr.gd hr.units) rfl T.repr0 (by decide +kernel) (ae (ad (i:=7) rfl (.inl rfl) rfl rfl rfl) ag rfl) rfl (by decide) rfl rfl rfl) (by decide)) rfl (by decide) (by decide) rfl (.inl rfl))
  (ai (av (i:=9) (d:=0) (ds':=[0,1,0,0,0,0,0,0,0,0]) nd rfl (.inl rfl) (al (d':=0) (bo i7 hr rfl (ae (ad (i:=6) rfl (.inl rfl) rfl rfl rfl) (ae (ad (i:=7) rfl (.inl rfl) rfl rfl rfl) ag rfl) rfl) rfl rfl rfl rfl rfl) (by decide)) rfl (by decide) (by decide) rfl (.inl rfl))
  (ai (br (ds2:=[0,1,0,0,0,0,0,0,0,0]) (qpt (di (dO (cg (cu (K:=K) (n:="bool") rfl rfl T.isinstance0 rfl T.bool0 (by decide +kernel) (by decide) (ad (i:=9) rfl (.inl rfl) rfl rfl rfl) (by decide) rfl rfl rfl rfl) (fun _=>rfl))) (cU (aP (jg (K:=K) rfl hr.units) (ad (i:=9) rfl (.inl rfl) rfl rfl rfl) (bo kK hr rfl (ae (ad (i:=3) rfl (.inr (.inl rfl)) rfl rfl rfl) (ae (ad (i:=7) rfl (.inl rfl) rfl rfl rfl) ag rfl) rfl) rfl rfl rfl rfl rfl) (aX _))))) (au (aF bM rfl)) bh)
  (au (br (ds2:=[0,1,0,0,0,0,0,0,0,0]) (qpt (di (aP (jg (K:=K) rfl hr.units) (aB (mI (K:=K) rfl hr.gd hr.units) rfl T.repr0 (by decide +kernel) (ae (ad (i:=7) rfl (.inl rfl) rfl rfl rfl) ag rfl) rfl (by decide) rfl rfl rfl) (ad (i:=8) rfl (.inl rfl) rfl rfl rfl) (aX _)) (cU (aP (jg (K:=K) rfl hr.units) (ad (i:=6) rfl (.inl rfl) rfl rfl rfl) (ad (i:=3) rfl (.inr (.inl rfl)) rfl rfl rfl) (aX _))))) (au (aF bM rfl)) bh))))) PassesOwn.never (fun _=>rfl))
  (au (aF (eJ CT (bo i7 hr rfl (ae (ad (i:=6) rfl (.inl rfl) rfl rfl rfl) (ae (aO (bc (K:=K) rfl) (ad (i:=5) rfl (.inl rfl) rfl rfl rfl) aj (fun _ _=>rfl)) ag rfl) rfl) rfl rfl rfl rfl rfl) bM (aX _)) rfl))))))))))
end
end W22
set_option maxHeartbeats 1000000
namespace W22
open PySem L2 Pen2 Mch
end W22
namespace W22
open PySem L2 Pen2 Mch
theorem k9 {α:Type} (f:α→Bool):∀ l:List α,fM (l.map fun a=>.bool (f a))=some (l.map f)
 | []=>rfl
 | a :: r=>by
  show (fM (r.map fun a=>.bool (f a))).map (f a :: ·)=_
  rw [k9 f r]
  rfl
theorem all_map {α:Type} (f:α→Bool) (l:List α):iZ [.list (l.map fun a=>.bool (f a))]=some (.bool (l.all f)):=by
 show (fM _).map _=_
 rw [k9]
 show some (PyData.bool ((l.map f).all id))=_
 rw [List.all_map]
 rfl
def isInt:D→Bool
 | .int _=>true
 | _=>false
def gu (S:Nat):D→Bool
 | .list ts=>decide (ts.length=S) && ts.all isInt
 | _=>false
def Sm:D→Prop
 | .list ts=>ts.length≤1000
 | _=>True
theorem qh {t:D}:W (dR [t]) (fun r=>r=(.bool (isInt t),[none])):=by
 cases t <;> simp only [ws,dR,ja,isInt]
theorem sz {n:Nat} (h:n≤1000):n≤sizeLine:=Nat.le_trans h (by decide)
theorem yf {S:Nat} {t:D} (h:Sm t):W (bZ [.int (S:Int),t]) (fun r=>r=(.bool (gu S t),[none,none])):=by
 cases t with
 | list ts =>
  simp only [ws,bZ,eA]
  by_cases hm:(ts.length:Int)=(S:Int)
  ·have hm':ts.length=S:=by omega
   simp only [ws,hm]
   refine dB (fun t=>.bool (isInt t)) (sz h) (fun u hu=>?_) fun o=>?_
   ·simp only [ws,gZ]
    refine W.use qh ?_
    rintro _ rfl
    simp only [ws]
   ·simp only [ws]
    rw [all_map]
    simp only [ws,gu,hm',Bool.true_and,decide_true]
  ·have hm':¬ ts.length=S:=by omega
   simp only [ws,hm,gu,hm',Bool.false_and,decide_false]
 | _=>simp only [ws,bZ,eA,gu]
end W22
namespace W22
open PySem L2 Pen2 Mch
theorem nF:∀ ts:List D,ts.all isInt=true→∃ v:List Int,ts=v.map .int
 | [],_=>⟨[],rfl⟩
 | t :: ts,h=>by
  rw [List.all_cons,Bool.and_eq_true] at h
  obtain ⟨v,rfl⟩:=nF ts h.2
  cases t with
  | int z=>exact ⟨z :: v,rfl⟩
  | _=>exact absurd h.1 (by simp only [isInt]; decide)
theorem np {S:Nat}:∀ ts:List D,ts.all (gu S)=true→∃ vs:List (List Int),ts=vs.map az∧∀ v∈vs,v.length=S
 | [],_=>⟨[],rfl,by simp⟩
 | t :: ts,h=>by
  rw [List.all_cons,Bool.and_eq_true] at h
  obtain ⟨vs,rfl,hv⟩:=np ts h.2
  cases t with
  | list us =>
   have h1:(decide (us.length=S) && us.all isInt)=true:=h.1
   rw [Bool.and_eq_true,decide_eq_true_iff] at h1
   obtain ⟨v,rfl⟩:=nF us h1.2
   refine ⟨v :: vs,rfl,fun x hx=>?_⟩
   rcases List.mem_cons.mp hx with rfl | hx
   ·have:=h1.1; rwa [List.length_map] at this
   ·exact hv x hx
  | _=>exact absurd h.1 (by simp only [gu]; decide)
theorem yg {S:Nat} {v:List Int} (h:v.length=S):gu S (az v)=true:=by
 show (decide ((v.map PyData.int).length=S) && (v.map PyData.int).all isInt)=true
 rw [List.length_map,decide_eq_true h,Bool.true_and,List.all_map,List.all_eq_true]
 intro x _
 rfl
theorem jF:∀ xs ys:List Int,bp (xs.map PyData.int) (ys.map PyData.int)=decide (xs=ys)
 | [],[]=>rfl
 | [],_ :: _=>rfl
 | _ :: _,[]=>rfl
 | x :: xs,y :: ys=>by
  show (peq (.int x) (.int y) && bp (xs.map PyData.int) (ys.map PyData.int))=_
  rw [jF xs ys]
  simp only [peq,List.cons.injEq,Bool.decide_and]
  rfl
theorem eG:∀ v:List Int,aE (v.map .int)=true∧bj (v.map .int)=0
 | []=>⟨rfl,rfl⟩
 | a :: v=>by
  obtain ⟨h1,h2⟩:=eG v
  refine ⟨?_,?_⟩
  ·show (aw (.int a) && aE (v.map .int))=true
   rw [h1]; rfl
  ·show max (cW (.int a)) (bj (v.map .int))=0
   rw [h2]; rfl
theorem zr (v w:List Int):eqD (az v) (az w)=some (.bool (decide (v=w))):=by
 unfold eqD
 rw [grd,if_pos ⟨(eG v).1,(eG w).1,by show bj (v.map .int)+1≤60; rw [(eG v).2]; omega⟩]
 show some (PyData.bool (bp (v.map .int) (w.map .int)))=_
 rw [jF]
theorem yi (v w:List Int):neD (az v) (az w)=some (.bool (!decide (v=w))):=by
 unfold neD
 rw [grd,if_pos ⟨(eG v).1,(eG w).1,by show bj (v.map .int)+1≤60; rw [(eG v).2]; omega⟩]
 show some (PyData.bool (!bp (v.map .int) (w.map .int)))=_
 rw [jF]
end W22
namespace W22
open PySem L2 Pen2 Mch
variable {S W0:Nat} {es:List Bool} {gs:List (List (Option Nat))}
theorem qO {v w:List Int} (h:az v=az w):v=w:=by
 have h1:v.map PyData.int=w.map PyData.int:=PyData.list.inj h
 exact List.map_inj_right (fun a b e=>PyData.int.inj e) |>.mp h1
theorem Bw (M:MOk S W0 es gs) (n:Nat):((List.range (n+1)).map fun i=>az (it gs (base es) i)).all (gu S)=true:=by
 rw [List.all_map,List.all_eq_true]
 intro i _
 exact yg (M.lit i)
theorem oV {V:List (List Int)} {n:Nat}:(.list (V.map az):D)=eD gs es n↔V=(List.range (n+1)).map (it gs (base es)):=by
 have e:((List.range (n+1)).map fun i=>az (it gs (base es) i))=((List.range (n+1)).map (it gs (base es))).map az:=by rw [List.map_map]; rfl
 constructor
 ·intro h
  have h1:=PyData.list.inj h
  rw [e] at h1
  exact List.map_inj_right (fun a b z=>qO z) |>.mp h1
 ·intro h
  show (PyData.list _:D)=.list _
  rw [e,h]
theorem nj {V:List (List Int)} (h0:V≠[]):(∃ n,V=(List.range (n+1)).map (it gs (base es)))↔V[0]?=some (base es)∧∀ i,i+1 < V.length→V.getD (i+1) []=nxt gs (V.getD i []):=by
 constructor
 ·rintro ⟨n,rfl⟩
  refine ⟨by simp [it],fun i hi=>?_⟩
  rw [List.length_map,List.length_range] at hi
  simp only [List.getD_eq_getElem?_getD,List.getElem?_map,List.getElem?_range hi,List.getElem?_range (show i < n+1 by omega)]
  rfl
 ·rintro ⟨h1,h2⟩
  refine ⟨V.length - 1,List.ext_getElem? fun i=>?_⟩
  have l1:0 < V.length:=List.length_pos_iff.mpr h0
  rw [Nat.sub_add_cancel l1]
  by_cases hi:i < V.length
  ·have key:∀ i,i < V.length→V.getD i []=it gs (base es) i:=by
    intro i
    induction i with
    | zero=>intro _; rw [List.getD_eq_getElem?_getD,h1]; rfl
    | succ i ih=>intro hi; rw [h2 i hi,ih (by omega)]; rfl
   have:=key i hi
   rw [List.getElem?_map,List.getElem?_range hi,List.getElem?_eq_getElem hi]
   rw [List.getD_eq_getElem?_getD,List.getElem?_eq_getElem hi] at this
   exact congrArg some this
  ·rw [List.getElem?_eq_none (by omega),List.getElem?_eq_none (by simp; omega)]
def jS (gs:List (List (Option Nat))) (V:List (List Int)):D→D
 | .int k=>.bool (decide (V.getD k.toNat []=nxt gs (V.getD (k.toNat - 1) [])))
 | _=>.none
theorem p9 (V:List (List Int)) {i:Nat} {z:Int} (hz:z=i) (hi:i < V.length):atI (V.map az) z=some (az (V.getD i [])):=by
 subst hz
 rw [aY,List.getElem?_map,List.getD_eq_getElem?_getD,List.getElem?_eq_getElem hi]
 rfl
theorem mD (M:MOk S W0 es gs) {t:D} (h:Sm t) (h2:∀ ts,t=.list ts→∀ u∈ts,Sm u) :
  W (bJ [aU es gs,t]) (fun r=>∃ b,r=(.bool b,[none,none])∧(b=true↔∃ n,t=eD gs es n)):=by
 cases t with
 | list ts =>
  simp only [ws,bJ,ek]
  by_cases h0:(ts.length:Int)=0
  ·simp only [ws,h0]
   refine ⟨_,rfl,fun z=>absurd z (by decide),fun ⟨n,e⟩=>?_⟩
   have e':=PyData.list.inj e
   rw [e',fJ] at h0
   omega
  ·simp only [ws,h0]
   refine dB (fun t=>.bool (gu S t)) (sz h) (fun u hu=>?_) fun o=>?_
   ·simp only [ws,gY,aU,M.le]
    refine W.use (yf (h2 ts rfl u hu)) ?_
    rintro _ rfl
    simp only [ws]
   ·simp only [ws]
    rw [all_map]
    by_cases ha:ts.all (gu S)=true
    ·simp only [ws,ha]
     obtain ⟨vs,rfl,hv⟩:=np ts ha
     cases vs with
     | nil=>exact absurd rfl h0
     | cons v0 vr =>
      simp only [List.map_cons,List.getElem?_cons_zero,ws]
      refine W.of (yh M) ?_
      simp only [ws,yi]
      by_cases hb:v0=base es
      ·simp only [ws,hb]
       have hL:(v0 :: vr).length≤1000:=by
        have h':((v0 :: vr).map az).length≤1000:=h
        rwa [List.length_map] at h'
       have hL2:vr.length+1≤1000:=hL
       have el:(az (base es) :: vr.map az).length=vr.length+1:=by rw [List.length_cons,List.length_map]
       rw [el,show (((vr.length+1:Nat):Int) - 1).toNat=vr.length by omega]
       refine ⟨⟨by decide,by decide,by omega,by omega⟩,?_⟩
       refine dB (jS gs (base es :: vr)) (by rw [lU,List.length_map,List.length_range]; exact sz (by omega)) (fun t ht=>?_) fun o=>?_
       ·obtain ⟨i,hi,rfl⟩:=List.mem_map.mp ht
        have hi':i < vr.length:=List.mem_range.mp hi
        have a1:atI (az (base es) :: vr.map az) (1+(i:Int))=some (az ((base es :: vr).getD (i+1) [])):=p9 (base es :: vr) (by omega) (by rw [List.length_cons]; omega)
        have a2:atI (az (base es) :: vr.map az) (1+(i:Int) - 1)=some (az ((base es :: vr).getD i [])):=p9 (base es :: vr) (by omega) (by rw [List.length_cons]; omega)
        simp only [ws,gX,a1,a2]
        have ln:((base es :: vr).getD i []).length=S:=by
         rw [List.getD_eq_getElem?_getD,List.getElem?_eq_getElem (show i < (base es :: vr).length by rw [List.length_cons]; omega)]
         exact hv _ (by rw [hb]; exact List.getElem_mem _)
        refine W.of (yk M ln) ?_
        simp only [ws,zr,jS]
        rw [show (1+(i:Int)).toNat=i+1 by omega]
        rfl
       ·simp only [ws]
        have er:(lU 1 vr.length).map (jS gs (base es :: vr))=(List.range vr.length).map fun i=>.bool (decide ((base es :: vr).getD (i+1) []=nxt gs ((base es :: vr).getD i []))):=by
         rw [lU,List.map_map]
         refine List.map_congr_left fun i _=>?_
         show jS _ _ (.int (1+(i:Int)))=_
         rw [jS,show (1+(i:Int)).toNat=i+1 by omega]
         rfl
        rw [er,all_map]
        simp only [ws]
        refine ⟨_,rfl,?_⟩
        rw [List.all_eq_true]
        have q:(∃ n,(PyData.list (az (base es) :: vr.map az):D)=eD gs es n)↔_:=(exists_congr fun n=>oV (V:=base es :: vr)).trans (nj (gs:=gs) (es:=es) (V:=base es :: vr) (by simp))
        rw [q]
        constructor
        ·intro z
         refine ⟨rfl,fun i hi=>?_⟩
         exact of_decide_eq_true (z i (List.mem_range.mpr (by rw [List.length_cons] at hi; omega)))
        ·intro z i hi
         exact decide_eq_true (z.2 i (by rw [List.length_cons]; have:=List.mem_range.mp hi; omega))
      ·simp only [ws,hb]
       refine ⟨_,rfl,fun z=>absurd z (by decide),fun ⟨n,e⟩=>?_⟩
       have e1:=(oV (V:=v0 :: vr)).mp e
       have e2:=(nj (by simp)).mp ⟨n,e1⟩
       exact absurd (Option.some.inj e2.1) hb
    ·simp only [ws,ha]
     refine ⟨_,rfl,fun z=>absurd z (by decide),fun ⟨n,e⟩=>?_⟩
     have e':=PyData.list.inj e
     rw [e'] at ha
     exact absurd (Bw M n) ha
 | _ =>
  simp only [ws,bJ,ek]
  exact ⟨_,rfl,by simp [eD]⟩
end W22
namespace W22
open PySem L2 Pen2 Mch
variable {S W0:Nat} {es:List Bool} {gs:List (List (Option Nat))}
theorem ye (v:List Int):(gs.map aI).map (fun t=>(.int (rsD v t):D))=(nxt gs v).map .int:=by
 rw [nxt,List.map_map,List.map_map]; rfl
theorem rG:(es.map PyData.bool).map b1F=(base es).map .int:=by
 rw [base,List.map_map,List.map_map]; rfl
theorem BM (M:MOk S W0 es gs) {v:List Int} (hv:v.length=S) {t:D} (ht:t∈gs.map aI):W (fA [some t,some (az v)]) (fun r=>r=(.int (rsD v t),[some t,some (az v)])):=by
 obtain ⟨r,hr,rfl⟩:=List.mem_map.mp ht
 exact W.of (show fA _=_ from xz (M.ok r hr) hv M.w2) rfl
def fh (gs:List (List (Option Nat))) (es:List Bool) (n:Nat):List D:=(List.range (n+1)).map fun i=>az (it gs (base es) i)
theorem fO (n:Nat):(fh gs es n).length=n+1:=fJ
theorem cT (M:MOk S W0 es gs) {N:Nat} (hN:N≤100):W (bI [aU es gs,.int (N:Int)]) (fun r=>r=(eD gs es N,[none,none])):=by
 simp only [ws,bI,gF,aU]
 refine dB b1F (by rw [List.length_map,M.le]; exact sz (by have:=M.s2; omega)) (fun t ht=>?_) fun o=>?_
 ·obtain ⟨b,_,rfl⟩:=List.mem_map.mp ht
  cases b <;> simp only [ws,iG,b1F] <;> rfl
 ·simp only [ws]
  rw [rG]
  refine nN (fun d en=>∃ n x,n+d=N∧en=[some (aU es gs),some (.int (N:Int)),some (.list (fh gs es n)),x]) (fun d en ⟨n,x,hd,e⟩=>?_) (n:=N) ⟨0,none,by omega,rfl⟩
  subst e
  simp only [ws,iE]
  rw [fO]
  by_cases hn:n < N
  ·have q:decide (((n+1:Nat):Int)≤(N:Int))=true:=decide_eq_true (by omega)
   have a1:atI (fh gs es n) (-1)=some (az (it gs (base es) n)):=qr
   simp only [ws,q,iF,a1,aU]
   refine dB (fun t=>.int (rsD (it gs (base es) n) t)) (by rw [List.length_map,M.lg]; exact sz (by have:=M.s2; omega)) (fun t ht=>BM M (M.lit n) ht) fun o=>?_
   rw [ye]
   simp only [ws]
   refine ⟨?_,?_⟩
   ·rw [fO]; exact szl (by omega)
   ·exact ⟨d - 1,by omega,n+1,_,by omega,by
     have e:fh gs es n++[az (it gs (base es) (n+1))]=fh gs es (n+1):=qp
     rw [← e]; rfl⟩
  ·have q:decide (((n+1:Nat):Int)≤(N:Int))=false:=decide_eq_false (by omega)
   simp only [ws,q]
   rw [show n=N by omega]
   rfl
end W22
namespace W22
open PySem L2 Pen2 Mch
variable {S W0:Nat} {es:List Bool} {gs:List (List (Option Nat))}
theorem oS {a b:List D} {j:Nat} {u:D} (h:(eB a b)[j]?=some u):∃ x y,a[j]?=some x∧b[j]?=some y∧u=.tuple [x,y]:=by
 unfold eB at h
 rw [List.getElem?_zipWith] at h
 cases e:a[j]? with
 | none=>rw [e] at h; cases h
 | some x =>
  cases e2:b[j]? with
  | none=>rw [e,e2] at h; cases h
  | some y=>rw [e,e2] at h; cases h; exact ⟨x,y,rfl,rfl,rfl⟩
theorem nh {a b:List D} (h:a.length=b.length):(eB a b).length=a.length:=by
 unfold eB
 rw [List.length_zipWith,h,Nat.min_self]
theorem qP {xs:List D} {v:List Int} (hl:xs.length=v.length) {a b c d e x5 x6:Option D} {Q:Fl→Prop} (hyes:xs=v.map .int→∀ x5 x6,Q (.nx [a,b,c,d,e,x5,x6])) (hno:xs≠v.map .int→∀ x5 x6,Q (.rt (.bool false) [a,b,c,d,e,x5,x6])) :
  W (bS (gT (gsC (gN 5) (gsC (gN 6) gs0))) bY (eB xs (v.map .int)) [a,b,c,d,e,x5,x6]) Q:=by
 have hl':xs.length=(v.map PyData.int).length:=by rw [List.length_map]; exact hl
 refine ki (fun i en=>(∃ x5 x6,en=[a,b,c,d,e,x5,x6])∧∀ j,j < i→xs[j]?=(v.map PyData.int)[j]?) ⟨⟨_,_,rfl⟩,fun j hj=>absurd hj (Nat.not_lt_zero _)⟩ (fun i t en ht hI=>?_) fun en hI=>?_
 ·obtain ⟨⟨y5,y6,rfl⟩,hj⟩:=hI
  obtain ⟨x,y,hx,hy,rfl⟩:=oS ht
  rw [List.getElem?_map,Option.map_eq_some_iff] at hy
  obtain ⟨z,hz,rfl⟩:=hy
  have no:x≠.int z→xs≠v.map .int:=fun ne e=>by
   rw [e,List.getElem?_map,hz] at hx
   exact ne (Option.some.inj hx).symm
  cases x with
  | int w =>
   by_cases hw:w=z
   ·subst hw
    simp only [ws,bY]
    refine ⟨⟨_,_,rfl⟩,fun j hji=>?_⟩
    by_cases q:j < i
    ·exact hj j q
    ·rw [show j=i by omega,hx,List.getElem?_map,hz]; rfl
   ·simp only [ws,bY,hw]
    exact hno (no fun e=>hw (PyData.int.inj e)) _ _
  | _ =>
   simp only [ws,bY]
   exact hno (no (by simp)) _ _
 ·obtain ⟨⟨y5,y6,rfl⟩,hj⟩:=hI
  refine hyes (List.ext_getElem? fun j=>?_) _ _
  rw [nh hl'] at hj
  by_cases h:j < xs.length
  ·exact hj j h
  ·rw [List.getElem?_eq_none (by omega),List.getElem?_eq_none (by omega)]
theorem D7 (M:MOk S W0 es gs) {t:D} (h:∀ ts,t=.list ts→ts.length≤100) (h2:∀ ts,t=.list ts→∀ u∈ts,Sm u) :
  W (bG [aU es gs,t]) (fun r=>∃ b,r=(.bool b,[none,none])∧(b=true↔∃ n,t=eD gs es n)):=by
 cases t with
 | list ts =>
  simp only [ws,bG,dt]
  have hl:=h ts rfl
  by_cases h0:(ts.length:Int)=0
  ·simp only [ws,h0]
   refine ⟨_,rfl,fun z=>absurd z (by decide),fun ⟨n,e⟩=>?_⟩
   have e':=PyData.list.inj e
   rw [e',fJ] at h0
   omega
  ·simp only [ws,h0]
   rw [show ((ts.length:Int) - 1)=((ts.length - 1:Nat):Int) by omega]
   refine W.use (cT M (N:=ts.length - 1) (by omega)) ?_
   rintro _ rfl
   simp only [ws,eD]
   obtain ⟨TL,hTL⟩:∃ TL,(List.range (ts.length - 1+1)).map (fun i=>az (it gs (base es) i))=TL:=⟨_,rfl⟩
   have lT:ts.length=TL.length:=by rw [← hTL,fJ]; omega
   have iff:(∃ n,(PyData.list ts:D)=.list ((List.range (n+1)).map fun i=>az (it gs (base es) i)))↔ts=TL:=by
    constructor
    ·rintro ⟨n,e⟩
     have e':=PyData.list.inj e
     have l:ts.length=n+1:=by rw [e',fJ]
     rw [← hTL,l]
     exact e'
    ·intro e
     exact ⟨ts.length - 1,by rw [hTL,← e]⟩
   rw [hTL]
   simp only [iff]
   refine ki (fun i en=>(∃ x3 x4 x5 x6,en=[some (aU es gs),some (.list ts),some (.list TL),x3,x4,x5,x6])∧∀ j,j < i→ts[j]?=TL[j]?) ⟨⟨_,_,_,_,rfl⟩,fun j hj=>absurd hj (Nat.not_lt_zero _)⟩ (fun i t en ht hI=>?_) fun en hI=>?_
   ·obtain ⟨⟨y3,y4,y5,y6,rfl⟩,hj⟩:=hI
    obtain ⟨x,y,hx,hy,rfl⟩:=oS ht
    have hy':y=az (it gs (base es) i):=by
     rw [← hTL,List.getElem?_map,Option.map_eq_some_iff] at hy
     obtain ⟨k,hk,rfl⟩:=hy
     rw [List.getElem?_eq_some_iff] at hk
     obtain ⟨_,hk⟩:=hk
     rw [List.getElem_range] at hk
     rw [hk]
    have no:x≠y→ts≠TL:=fun ne e=>by
     rw [e,hy] at hx
     exact ne (Option.some.inj hx).symm
    have yes:x=y→∀ j,j < i+1→ts[j]?=TL[j]?:=fun e j hji=>by
     by_cases q:j < i
     ·exact hj j q
     ·rw [show j=i by omega,hx,hy,e]
    subst hy'
    cases x with
    | list xs =>
     simp only [ws,dM,az]
     by_cases hlen:xs.length=(it gs (base es) i).length
     ·have q:decide ((xs.length:Int)=((it gs (base es) i).length:Int))=true:=decide_eq_true (by omega)
      simp only [ws,q]
      refine qP hlen (fun e x5 x6=>?_) fun ne x5 x6=>?_
      ·simp only [ws]
       exact ⟨⟨_,_,_,_,rfl⟩,yes (by rw [e]; rfl)⟩
      ·simp only [ws]
       exact ⟨_,rfl,fun z=>absurd z (by decide),fun z=>absurd z (no fun e=>ne (PyData.list.inj e))⟩
     ·have q:decide ((xs.length:Int)=((it gs (base es) i).length:Int))=false:=decide_eq_false (by omega)
      simp only [ws,q]
      refine ⟨_,rfl,fun z=>absurd z (by decide),fun z=>absurd z (no fun e=>hlen ?_)⟩
      rw [PyData.list.inj e,List.length_map]
    | _ =>
     simp only [ws,dM]
     exact ⟨_,rfl,fun z=>absurd z (by decide),fun z=>absurd z (no (by simp [az]))⟩
   ·obtain ⟨⟨y3,y4,y5,y6,rfl⟩,hj⟩:=hI
    simp only [ws]
    refine ⟨_,rfl,fun _=>List.ext_getElem? fun j=>?_,fun _=>rfl⟩
    rw [nh lT] at hj
    by_cases h:j < ts.length
    ·exact hj j h
    ·rw [List.getElem?_eq_none (by omega),List.getElem?_eq_none (by omega)]
 | _ =>
  simp only [ws,bG,dt]
  exact ⟨_,rfl,by simp [eD]⟩
end W22
namespace W22
open PySem L2 Pen2 Mch
variable {S W0:Nat} {es:List Bool} {gs:List (List (Option Nat))}
theorem qw {rows xs:List D} {a b:Nat} (ha:rows[a]?=some (.list xs)) (hb:b < xs.length) {x0:Option D} {t:D} :
  fB 4 (pIx 4 (fQ 4) (ac 1)) (ac 2) (ac 3) [x0,some (.int (a:Int)),some (.int (b:Int)),some t,some (.list rows)]=some (.nx [x0,some (.int (a:Int)),some (.int (b:Int)),some t,some (.list (rows.set a (.list (xs.set b t))))]):=by
 have la:a < rows.length:=(List.getElem?_eq_some_iff.mp ha).1
 have p:pIx 4 (fQ 4) (ac 1) [x0,some (.int (a:Int)),some (.int (b:Int)),some t,some (.list rows)]=some ([a],[x0,some (.int (a:Int)),some (.int (b:Int)),some t,some (.list rows)]):=by
  show ((ixN rows.length (a:Int)).bind fun k=>if k < rows.length then some (([]:List Nat)++[k],_) else none)=_
  rw [fK la,Option.bind_some,if_pos la]
  rfl
 have g:cI (.list rows) [a]=some (.list xs):=by
  show (rows[a]?).bind (fun u=>cI u [])=_
  rw [ha]
  rfl
 have q:cH (.list rows) [a] (.list (xs.set b t))=.list (rows.set a (.list (xs.set b t))):=by
  show PyData.list (rows.set a ((rows[a]?).elim .none fun c=>cH c [] (.list (xs.set b t))))=_
  rw [ha]
  rfl
 show ((pIx 4 (fQ 4) (ac 1) [x0,some (.int (a:Int)),some (.int (b:Int)),some t,some (.list rows)]).bind fun w=>_)=_
 rw [p]
 show (cI (.list rows) [a]).bind _=_
 rw [g]
 show (ixN xs.length (b:Int)).map _=_
 rw [fK hb]
 show some (Fl.nx _)=_
 rw [q]
 rfl
end W22
namespace W22
open PySem L2 Pen2 Mch
variable {S W0:Nat} {es:List Bool} {gs:List (List (Option Nat))}
def Ft (d b:Nat) (t:D):Prop:=t.showable=true∧t.depth≤d∧t.leavesShort 1921=true∧t.bulk≤b
theorem Ft.mono {d d' b b':Nat} {t:D} (h:Ft d b t) (hd:d≤d') (hb:b≤b'):Ft d' b' t:=⟨h.1,Nat.le_trans h.2.1 hd,h.2.2.1,Nat.le_trans h.2.2.2 hb⟩
theorem Ft.rep {t:D} (h:Ft 60 8000 t):∃ z,jU [t]=some (.str z):=by
 obtain ⟨h1,h2,h3,h4⟩:=h
 refine ⟨t.shown,if_pos ⟨h1,h2,Nat.le_trans (PyData.shown_le_bulk 1921 (by decide) t h3) ?_⟩⟩
 exact Nat.le_trans (show (1921+2) * t.bulk+1921≤15500000 by omega) (by decide)
theorem Ft.all {d b:Nat}:∀ ts:List D,(∀ t∈ts,Ft d b t)→PyData.showableAll ts=true∧PyData.depthAll ts≤d∧PyData.leavesShortAll 1921 ts=true∧PyData.bulkAll ts≤ts.length * (b+1)
 | [],_=>by simp [PyData.showableAll,PyData.depthAll,PyData.leavesShortAll,PyData.bulkAll]
 | t :: ts,h=>by
  obtain ⟨a1,a2,a3,a4⟩:=h t (List.mem_cons_self ..)
  obtain ⟨b1,b2,b3,b4⟩:=Ft.all ts fun u hu=>h u (List.mem_cons_of_mem _ hu)
  refine ⟨?_,?_,?_,?_⟩
  ·rw [PyData.showableAll,a1,b1]; rfl
  ·rw [PyData.depthAll]; exact Nat.max_le.mpr ⟨a2,b2⟩
  ·rw [PyData.leavesShortAll,a3,b3]; rfl
  ·rw [PyData.bulkAll,List.length_cons,Nat.succ_mul]; omega
theorem Ft.list {d b L:Nat} {ts:List D} (hl:ts.length≤L) (h:∀ t∈ts,Ft d b t):Ft (d+1) (L * (b+1)) (.list ts):=by
 obtain ⟨b1,b2,b3,b4⟩:=Ft.all ts h
 refine ⟨?_,?_,?_,?_⟩
 ·rw [PyData.showable,b1]
 ·rw [PyData.depth]; omega
 ·rw [PyData.leavesShort,b3]
 ·rw [PyData.bulk]; exact Nat.le_trans b4 (Nat.mul_le_mul_right _ hl)
theorem Ft.tup {d b L:Nat} {ts:List D} (hl:ts.length≤L) (h:∀ t∈ts,Ft d b t):Ft (d+1) (L * (b+1)) (.tuple ts):=by
 obtain ⟨b1,b2,b3,b4⟩:=Ft.all ts h
 refine ⟨?_,?_,?_,?_⟩
 ·rw [PyData.showable,b1]
 ·rw [PyData.depth]; omega
 ·rw [PyData.leavesShort,b3]
 ·rw [PyData.bulk]; exact Nat.le_trans b4 (Nat.mul_le_mul_right _ hl)
theorem Ft.int {i:Int} (h:i.natAbs < 2 ^ 1920):Ft 0 0 (.int i):=by
 have l:i.natAbs.log2 < 1920:=by
  by_cases z:i.natAbs=0
  ·rw [z]; decide
  ·exact (Nat.log2_lt z).mpr h
 refine ⟨?_,?_,?_,?_⟩
 ·rw [PyData.showable]; exact decide_eq_true l
 ·rw [PyData.depth]; exact Nat.le_refl _
 ·rw [PyData.leavesShort,PyData.shown]; exact decide_eq_true (PyProof.Rows.int_text_len_1921 l)
 ·rw [PyData.bulk]; exact Nat.le_refl _
theorem Ft.bool {b:Bool}:Ft 0 0 (.bool b):=by
 refine ⟨?_,?_,?_,?_⟩ <;> simp [PyData.showable,PyData.depth,PyData.leavesShort,PyData.bulk]
theorem Ft.none:Ft 0 0 .none:=by
 refine ⟨?_,?_,?_,?_⟩ <;> simp [PyData.showable,PyData.depth,PyData.leavesShort,PyData.bulk]
theorem Ft.str {z:Str} {n:Nat} (hc:∀ c∈z.cps.toList,c < 16 ^ 8) (hl:z.cps.size≤n):Ft 0 n (.str z):=by
 refine ⟨?_,?_,?_,?_⟩
 ·simp [PyData.showable]
 ·rw [PyData.depth]; exact Nat.le_refl _
 ·rw [PyData.leavesShort]; exact List.all_eq_true.mpr fun c h=>decide_eq_true (hc c h)
 ·rw [PyData.bulk]; exact hl
def NumC (c:Int) (t:D):Prop:=(∃ i:Int,t=.int i∧-c≤i∧i≤c)∨∃ b,t=.bool b
def NumR (S:Nat) (c:Int) (t:D):Prop:=∃ xs,t=.list xs∧xs.length=S∧∀ x∈xs,NumC c x
theorem NumC.mono {c c':Int} {t:D} (h:NumC c t) (hc:c≤c'):NumC c' t:=by
 rcases h with ⟨i,e,h1,h2⟩ | h
 ·exact .inl ⟨i,e,by omega,by omega⟩
 ·exact .inr h
theorem NumR.mono {c c':Int} {t:D} (h:NumR S c t) (hc:c≤c'):NumR S c' t:=by
 obtain ⟨xs,e,hl,hx⟩:=h
 exact ⟨xs,e,hl,fun x hx'=>(hx x hx').mono hc⟩
theorem ky {c:Int} (hc:1≤c):∀ us:List D,(∀ u∈us,NumC c u)→∃ ns,dW us=some ns∧-(c * (us.length:Int))≤ns.sum∧ns.sum≤c * (us.length:Int)
 | [],_=>⟨[],rfl,by simp,by simp⟩
 | u :: us,h=>by
  obtain ⟨ns,e,b1,b2⟩:=ky hc us fun x hx=>h x (List.mem_cons_of_mem _ hx)
  have el:c * (((u :: us).length:Nat):Int)=c * (us.length:Int)+c:=by
   rw [List.length_cons,Int.natCast_succ,Int.mul_add,Int.mul_one]
  rw [el]
  rcases h u (List.mem_cons_self ..) with ⟨i,rfl,h1,h2⟩ | ⟨b,rfl⟩
  ·refine ⟨i :: ns,?_,?_,?_⟩
   ·show (dW us).map _=_
    rw [e]; rfl
   ·rw [List.sum_cons]; omega
   ·rw [List.sum_cons]; omega
  ·refine ⟨(if b=true then 1 else 0) :: ns,?_,?_,?_⟩
   ·show (dW us).map _=_
    rw [e]; rfl
   ·rw [List.sum_cons]; split <;> omega
   ·rw [List.sum_cons]; split <;> omega
def lD (xs:List D):D→D
 | .int j=>xs.getD j.toNat .none
 | _=>.none
def lR (xs:List D):D→List D
 | .list ts=>(ts.filter fun t=>!dh t).map (lD xs)
 | _=>[]
def iK (xs:List D) (t:D):Int:=((dW (lR xs t)).getD []).sum
theorem lQ {c:Int} {xs:List D} {r:List (Option Nat)} (hr:cQ S W0 r) (hl:xs.length=S) (hx:∀ x∈xs,NumC c x):∀ u∈lR xs (aI r),NumC c u:=by
 intro u hu
 obtain ⟨t,ht,rfl⟩:=List.mem_map.mp hu
 obtain ⟨ht1,ht2⟩:=List.mem_filter.mp ht
 obtain ⟨o,ho,rfl⟩:=List.mem_map.mp ht1
 cases o with
 | none=>cases ht2
 | some j =>
  have hj:j < xs.length:=by rw [hl]; exact hr.2 _ ho _ rfl
  show NumC c (xs.getD (j:Int).toNat .none)
  rw [Int.toNat_natCast,List.getD_eq_getElem?_getD,List.getElem?_eq_getElem hj]
  exact hx _ (List.getElem_mem _)
theorem qx {xs:List D} {r:List (Option Nat)} (hr:cQ S W0 r):(lR xs (aI r)).length≤W0:=by
 show (List.map _ (List.filter _ _)).length≤_
 rw [List.length_map]
 exact Nat.le_trans (List.length_filter_le _ _) (by rw [List.length_map,hr.1]; exact Nat.le_refl _)
theorem BN {c:Int} (hc:1≤c) (hW:W0≤12) {xs:List D} {r:List (Option Nat)} (hr:cQ S W0 r) (hl:xs.length=S) (hx:∀ x∈xs,NumC c x):-(12 * c)≤iK xs (aI r)∧iK xs (aI r)≤12 * c:=by
 obtain ⟨ns,e,b1,b2⟩:=ky hc _ (lQ hr hl hx)
 have l:=qx (xs:=xs) hr
 have m:c * ((lR xs (aI r)).length:Int)≤c * 12:=Int.mul_le_mul_of_nonneg_left (by omega) (by omega)
 rw [iK,e]
 show -(12 * c)≤ns.sum∧ns.sum≤12 * c
 omega
theorem BK {c:Int} (hc:1≤c) (hW:W0≤12) {xs:List D} {r:List (Option Nat)} (hr:cQ S W0 r) (hl:xs.length=S) (hx:∀ x∈xs,NumC c x) :
  W (eS [some (aI r),some (.list xs)]) (fun q=>q=(.int (iK xs (aI r)),[some (aI r),some (.list xs)])):=by
 simp only [ws,eS,aI]
 refine qa (fun t=>!dh t) (lD xs) (by rw [List.length_map,hr.1]; exact sz (by omega)) (fun t ht=>?_) (fun t ht hp=>?_) fun o=>?_
 ·obtain ⟨o,ho,rfl⟩:=List.mem_map.mp ht
  cases o <;> simp only [ws,gR,goD] <;> rfl
 ·obtain ⟨o,ho,rfl⟩:=List.mem_map.mp ht
  cases o with
  | none=>cases hp
  | some j =>
   have hj:j < xs.length:=by rw [hl]; exact hr.2 _ ho _ rfl
   have a:atI xs (j:Int)=some (lD xs (.int (j:Int))):=by
    rw [aY,List.getElem?_eq_getElem hj]
    show _=some (xs.getD (j:Int).toNat .none)
    rw [Int.toNat_natCast,List.getD_eq_getElem?_getD,List.getElem?_eq_getElem hj]
    rfl
   simp only [ws,hC,goD,a]
 ·simp only [ws]
  obtain ⟨ns,e,b1,b2⟩:=ky hc _ (lQ hr hl hx)
  have es:qu [.list (((r.map goD).filter fun t=>!dh t).map (lD xs))]=some (.int (iK xs (aI r))):=by
   show (dW (lR xs (aI r))).map _=_
   rw [iK,e]
   rfl
  rw [es]
  simp only [ws]
  rfl
end W22
namespace W22
open PySem L2 Pen2 Mch
variable {S W0:Nat} {es:List Bool} {gs:List (List (Option Nat))}
theorem zE {ts:List D} (h:ts≠[]):∃ x∈ts,atI ts (-1)=some x:=by
 have l:0 < ts.length:=List.length_pos_iff.mpr h
 have hi:ts.length - 1 < ts.length:=by omega
 refine ⟨ts[ts.length - 1],List.getElem_mem _,?_⟩
 unfold atI
 have e:ixN ts.length (-1)=some (ts.length - 1):=by
  unfold ixN
  rw [if_neg (by decide),if_pos (by omega),show ((-1:Int)+(ts.length:Int)).toNat=ts.length - 1 by omega]
 rw [e]
 exact List.getElem?_eq_getElem hi
theorem pw {c:Int} (hc:1≤c):∀ n:Nat,1≤c * 12 ^ n
 | 0=>by rw [Int.pow_zero]; omega
 | n+1=>by have:=pw hc n; rw [Int.pow_succ,← Int.mul_assoc]; omega
theorem kw {c:Int} (hc:1≤c) {m n:Nat} (h:m≤n):c * 12 ^ m≤c * 12 ^ n:=by
 induction h with
 | refl=>exact Int.le_refl _
 | @step k _ ih=>have:=pw hc k; rw [Nat.succ_eq_add_one,Int.pow_succ,← Int.mul_assoc]; omega
theorem kP (M:MOk S W0 es gs) {c:Int} (hc:1≤c) {rows:List D} (h0:rows≠[]) (hl:rows.length≤10) (hr:∀ t∈rows,NumR S c t) {n:Nat} (hn:n≤10) :
  W (bv [aU es gs,.list rows,.int (n:Int)]) (fun r=>∃ us,r=(.list us,[none,none,none])∧us.length≤10∧∀ t∈us,NumR S (c * 12 ^ 10) t):=by
 simp only [ws,bv,gb,aU]
 refine dB (fun t=>t) (sz (by omega)) (fun t ht=>?_) fun o=>?_
 ·obtain ⟨xs,rfl,_⟩:=hr t ht
  simp only [ws,hR]
 ·rw [List.map_id']
  simp only [ws]
  refine nN (fun d en=>∃ got x,en=[some (aU es gs),some (.list rows),some (.int (n:Int)),some (.list got),x]∧d=n - got.length∧got≠[]∧got.length≤10∧∀ t∈got,NumR S (c * 12 ^ got.length) t) (fun d en ⟨got,x,e,hd,g0,g1,g2⟩=>?_) (n:=n - rows.length) ⟨rows,none,rfl,rfl,h0,hl,fun t ht=>(hr t ht).mono (by have:=kw hc (Nat.zero_le rows.length); rw [Int.pow_zero] at this; omega)⟩
  subst e
  simp only [ws,gQ]
  by_cases hlt:got.length < n
  ·have q:decide ((got.length:Int) < (n:Int))=true:=decide_eq_true (by omega)
   obtain ⟨a,ha,a1⟩:=zE g0
   obtain ⟨xs,rfl,xl,xn⟩:=g2 a ha
   simp only [ws,q,gW,a1,aU]
   refine dB (fun t=>.int (iK xs t)) (by rw [List.length_map,M.lg]; exact sz (by have:=M.s2; omega)) (fun t ht=>?_) fun o=>?_
   ·obtain ⟨r,hr',rfl⟩:=List.mem_map.mp ht
    exact BK (pw hc _) M.w2 (M.ok r hr') xl xn
   ·simp only [ws]
    refine ⟨szl (by omega),d - 1,by omega,got++[.list ((gs.map aI).map fun t=>.int (iK xs t))],_,rfl,by rw [List.length_append]; show d - 1=n - (got.length+1); omega,by simp,by rw [List.length_append]; show got.length+1≤10; omega,fun t ht=>?_⟩
    rw [List.length_append]
    show NumR S (c * 12 ^ (got.length+1)) t
    rcases List.mem_append.mp ht with ht | ht
    ·exact (g2 t ht).mono (kw hc (by omega))
    ·rw [List.mem_singleton.mp ht]
     refine ⟨_,rfl,by rw [List.length_map,List.length_map,M.lg],fun u hu=>?_⟩
     obtain ⟨t',ht',rfl⟩:=List.mem_map.mp hu
     obtain ⟨r,hr',rfl⟩:=List.mem_map.mp ht'
     have b:=BN (pw hc got.length) M.w2 (M.ok r hr') xl xn
     refine .inl ⟨_,rfl,?_,?_⟩ <;> rw [Int.pow_succ,← Int.mul_assoc] <;> omega
  ·have q:decide ((got.length:Int) < (n:Int))=false:=decide_eq_false (by omega)
   simp only [ws,q]
   exact ⟨_,rfl,g1,fun t ht=>(g2 t ht).mono (kw hc g1)⟩
end W22
namespace W22
open PySem L2 Pen2 Mch
variable {S W0:Nat} {es:List Bool} {gs:List (List (Option Nat))}
theorem iq {α:Type} (xs:List α) (n:Nat):bX xs (some (n:Int)) none=xs.drop n:=by
 unfold bX
 rw [HT.sIx_none,HT.sIx_nat,List.take_of_length_le (by rw [List.length_drop]; exact Nat.le_refl _)]
 by_cases h:n≤xs.length
 ·rw [Nat.min_eq_left h]
 ·rw [Nat.min_eq_right (by omega),List.drop_eq_nil_of_le (Nat.le_refl _),List.drop_eq_nil_of_le (by omega)]
theorem fU {α:Type} (xs:List α) (n:Nat):bX xs none (some (n:Int))=xs.take n:=by
 unfold bX
 rw [HT.sIx_none,HT.sIx_nat,List.drop_zero,Nat.sub_zero]
 by_cases h:n≤xs.length
 ·rw [Nat.min_eq_left h]
 ·rw [Nat.min_eq_right (by omega),List.take_of_length_le (Nat.le_refl _),List.take_of_length_le (by omega)]
def Good (t:D):Prop:=Ft 60 8000 t∧Sm t∧∀ ts,t=.list ts→ts.length≤100∧∀ u∈ts,Sm u
def Rw (t:D):Prop:=Ft 2 153 t∧Sm t
def Cl (t:D):Prop:=Ft 1 16 t
theorem Rw.list {xs:List D} (hl:xs.length≤9) (h:∀ x∈xs,Cl x):Rw (.list xs):=⟨Ft.list hl h,by show xs.length≤1000; omega⟩
theorem Rw.tup {xs:List D} (hl:xs.length≤9) (h:∀ x∈xs,Cl x):Rw (.tuple xs):=⟨Ft.tup hl h,trivial⟩
theorem Rw.non:Rw .none:=⟨Ft.none.mono (by decide) (by decide),trivial⟩
theorem Good.list {ts:List D} (hl:ts.length≤10) (h:∀ t∈ts,Rw t):Good (.list ts) :=
 ⟨(Ft.list hl fun t ht=>(h t ht).1).mono (by decide) (by decide),by show ts.length≤1000; omega,fun us e=>by
  cases e
  exact ⟨by omega,fun u hu=>(h u hu).2⟩⟩
theorem Good.tup {ts:List D} (hl:ts.length≤10) (h:∀ t∈ts,Rw t):Good (.tuple ts) :=
 ⟨(Ft.tup hl fun t ht=>(h t ht).1).mono (by decide) (by decide),trivial,fun us e=>by cases e⟩
theorem Good.one {ts:List D} (hl:ts.length≤10) (h:∀ t∈ts,Rw t):Good (.list [.list ts]) :=
 ⟨(Ft.list (L:=1) (d:=3) (b:=1540) (Nat.le_refl _) fun t ht=>by
  rw [List.mem_singleton.mp ht]
  exact Ft.list hl fun t ht=>(h t ht).1).mono (by decide) (by decide),by show 1≤1000; decide,fun us e=>by
  cases e
  refine ⟨by show 1≤100; decide,fun u hu=>?_⟩
  rw [List.mem_singleton.mp hu]
  show ts.length≤1000
  omega⟩
theorem Good.of {t:D} (h:Ft 60 8000 t) (hn:∀ ts,t≠.list ts):Good t:=by
 cases t with
 | list ts=>exact absurd rfl (hn ts)
 | _=>exact ⟨h,trivial,fun us e=>by cases e⟩
def IntR (S:Nat) (t:D):Prop:=∃ v:List Int,t=az v∧v.length=S∧∀ x∈v,0≤x∧x≤1000000000
theorem dm {i:Int} (h1:-(10 ^ 100)≤i) (h2:i≤10 ^ 100):i.natAbs < 2 ^ 1920:=by
 have h3:i.natAbs≤10 ^ 100:=by omega
 exact Nat.lt_of_le_of_lt h3 (by decide)
theorem Cl.num {c:Int} (hc:c≤10 ^ 100) {t:D} (h:NumC c t):Cl t:=by
 rcases h with ⟨i,rfl,h1,h2⟩ | ⟨b,rfl⟩
 ·exact (Ft.int (dm (by omega) (by omega))).mono (by decide) (by decide)
 ·exact Ft.bool.mono (by decide) (by decide)
theorem IntR.num {t:D} (h:IntR S t):NumR S 1000000000 t:=by
 obtain ⟨v,rfl,l,hv⟩:=h
 refine ⟨_,rfl,by rw [List.length_map,l],fun x hx=>?_⟩
 obtain ⟨i,hi,rfl⟩:=List.mem_map.mp hx
 have:=hv i hi
 exact .inl ⟨i,rfl,by omega,by omega⟩
theorem NumR.rw {c:Int} (hc:c≤10 ^ 100) (hS:S≤8) {t:D} (h:NumR S c t):Rw t:=by
 obtain ⟨xs,rfl,l,hx⟩:=h
 exact Rw.list (by omega) fun x h=>Cl.num hc (hx x h)
theorem IntR.rw (hS:S≤8) {t:D} (h:IntR S t):Rw t:=h.num.rw (by decide) hS
theorem DT {rows:List D} (hl:rows.length≤100) (hr:∀ t∈rows,∃ xs,t=.list xs) {a b:Nat} {xs:List D} (ha:rows[a]?=some (.list xs)) (hb:b < xs.length) {t:D} :
  W (dS [.list rows,.int (a:Int),.int (b:Int),t]) (fun r=>r=(.list (rows.set a (.list (xs.set b t))),[none,none,none,none])):=by
 simp only [ws,dS,jb]
 refine dB (fun t=>t) (sz (by omega)) (fun t ht=>?_) fun o=>?_
 ·obtain ⟨ys,rfl⟩:=hr t ht
  simp only [ws,jw]
 ·rw [List.map_id']
  simp only [ws]
  refine W.of (qw ha hb) ?_
  simp only [ws]
theorem xL {rows:List D} {c:Int} (hr:∀ t∈rows,NumR S c t) {a b:Nat} {xs:List D} (ha:rows[a]?=some (.list xs)) {t:D} (ht:NumC c t):∀ u∈rows.set a (.list (xs.set b t)),NumR S c u:=by
 intro u hu
 rcases List.mem_or_eq_of_mem_set hu with h | rfl
 ·exact hr u h
 ·obtain ⟨ys,e,l,hy⟩:=hr _ (List.mem_of_getElem? ha)
  cases e
  refine ⟨_,rfl,by rw [List.length_set,l],fun x hx=>?_⟩
  rcases List.mem_or_eq_of_mem_set hx with h | rfl
  ·exact hy x h
  ·exact ht
theorem BH {rows:List D} (hS:S≤8) (hr:∀ t∈rows,IntR S t) {a b:Nat} {xs:List D} (ha:rows[a]?=some (.list xs)) {t:D} (ht:Cl t):∀ u∈rows.set a (.list (xs.set b t)),Rw u:=by
 intro u hu
 rcases List.mem_or_eq_of_mem_set hu with h | rfl
 ·exact (hr u h).rw hS
 ·obtain ⟨ys,e,l,hy⟩:=(hr _ (List.mem_of_getElem? ha)).num
  cases e
  refine Rw.list (by rw [List.length_set]; omega) fun x hx=>?_
  rcases List.mem_or_eq_of_mem_set hx with h | rfl
  ·exact Cl.num (by decide) (hy x h)
  ·exact ht
end W22
namespace W22
open PySem L2 Pen2 Mch
variable {S W0:Nat} {es:List Bool} {gs:List (List (Option Nat))}
structure Tb (S:Nat) (rows:List D) (a b:Nat):Prop where
 s:S≤7
 l:rows.length≤6
 r:∀ t∈rows,IntR S t
 a:a < rows.length
 b:b < S
theorem Tb.row {rows:List D} {a b:Nat} (T:Tb S rows a b) {i:Nat} (hi:i < rows.length):∃ v:List Int,rows[i]?=some (.list (v.map .int))∧v.length=S∧∀ x∈v,0≤x∧x≤1000000000:=by
 obtain ⟨v,e,h⟩:=T.r _ (List.getElem_mem hi)
 exact ⟨v,by rw [List.getElem?_eq_getElem hi,e]; rfl,h⟩
theorem Tb.rw {rows:List D} {a b:Nat} (T:Tb S rows a b):∀ t∈rows,Rw t:=fun t ht=>(T.r t ht).rw (by have:=T.s; omega)
theorem n8 {t:D} {i:Int} (e:t=.int i) (h1:-(10 ^ 71)≤i) (h2:i≤10 ^ 71):NumC (10 ^ 71) t:=.inl ⟨i,e,h1,h2⟩
theorem qo {rows:List D} {c:Int} (hr:∀ t∈rows,NumR S c t) {n:Nat}:∀ t∈rows.take n,NumR S c t:=fun t ht=>hr t (List.mem_of_mem_take ht)
theorem nv {us:List D} {c:Int} (hc:c≤10 ^ 100) (hS:S≤8) (hl:us.length≤10) (h:∀ t∈us,NumR S c t):Good (.list us):=Good.list hl fun t ht=>(h t ht).rw hc hS
theorem eP {got:List D} {t:D} (h:∀ u∈got,Good u) (ht:Good t):∀ u∈got++[t],Good u:=fun u hu=>by
 rcases List.mem_append.mp hu with hu | hu
 ·exact h u hu
 ·rw [List.mem_singleton.mp hu]; exact ht
theorem D5 (M:MOk S W0 es gs) {rows:List D} {a b:Nat} (T:Tb S rows a b) {ts:List D} (tl:ts.length≤10) (ht:∀ t∈ts,Cl t) (hn:∀ t∈ts,∀ i,t=.int i→-(10 ^ 71)≤i∧i≤10 ^ 71)
  {p o y h f th x13 x14 x15:Option D} {Q:Fl→Prop} (hq:∀ got x11 x12,got.length≤20→(∀ t∈got,Good t)→Q (.nx [p,some (aU es gs),some (.list rows),some (.int (a:Int)),o,some (.int (b:Int)),y,h,some (.list got),f,th,x11,x12,x13,x14,x15])) :
  W (bS (gN 11) ei ts [p,some (aU es gs),some (.list rows),some (.int (a:Int)),o,some (.int (b:Int)),y,h,some (.list []),f,th,none,none,x13,x14,x15]) Q:=by
 have hS:=T.s
 have hl:=T.l
 refine ki (fun i en=>∃ got x11 x12,en=[p,some (aU es gs),some (.list rows),some (.int (a:Int)),o,some (.int (b:Int)),y,h,some (.list got),f,th,x11,x12,x13,x14,x15]∧got.length≤2 * i∧∀ t∈got,Good t) ⟨[],none,none,rfl,Nat.le_refl _,fun _ z=>by cases z⟩ (fun i t en hti hI=>?_) fun en hI=>?_
 ·obtain ⟨got,x11,x12,rfl,g1,g2⟩:=hI
  have hi:i < 10:=by have:=(List.getElem?_eq_some_iff.mp hti).1; omega
  have tm:=List.mem_of_getElem? hti
  obtain ⟨v,hv,vl,_⟩:=T.row T.a
  have vb:b < (v.map PyData.int).length:=by rw [List.length_map,vl]; exact T.b
  simp only [ws,ei]
  refine W.use (DT (by omega) (fun t ht=>by obtain ⟨v,e,_⟩:=T.r t ht; exact ⟨_,e⟩) hv vb) ?_
  rintro _ rfl
  simp only [ws]
  refine ⟨szl (by omega),?_⟩
  have G1:Good (.list (rows.set a (.list ((v.map .int).set b t)))):=Good.list (by rw [List.length_set]; omega) (BH (by omega) T.r hv (ht t tm))
  have g3:=eP g2 G1
  have fin:NumC (10 ^ 71) t→W (bv [aU es gs,.list (bX (rows.set a (.list ((v.map .int).set b t))) none (some ((a:Int)+1))),.int (rows.length:Int)]) (fun r=>∃ us,r=(.list us,[none,none,none])∧Good (.list us)):=fun tn=>by
   rw [show ((a:Int)+1)=((a+1:Nat):Int) from rfl,fU]
   refine W.use (kP M (c:=10 ^ 71) (by decide) (by
    intro e
    have:=congrArg List.length e
    rw [List.length_take,List.length_set] at this
    have:=T.a
    simp only [List.length_nil] at *
    omega) (by rw [List.length_take,List.length_set]; omega) (qo (xL (fun u hu=>(T.r u hu).num.mono (by decide)) hv tn)) (by omega)) ?_
   rintro _ ⟨us,rfl,ul,un⟩
   exact ⟨us,rfl,nv (by decide) (by omega) ul un⟩
  cases t with
  | int z =>
   simp only [ws]
   refine W.use (fin (n8 rfl (hn _ tm z rfl).1 (hn _ tm z rfl).2)) ?_
   rintro _ ⟨us,rfl,G2⟩
   simp only [ws]
   exact ⟨szl (by rw [List.length_append]; show got.length+1 < _; omega),_,_,_,rfl,by rw [List.length_append,List.length_append]; show got.length+1+1≤_; omega,eP g3 G2⟩
  | bool z =>
   simp only [ws]
   refine W.use (fin (.inr ⟨z,rfl⟩)) ?_
   rintro _ ⟨us,rfl,G2⟩
   simp only [ws]
   exact ⟨szl (by rw [List.length_append]; show got.length+1 < _; omega),_,_,_,rfl,by rw [List.length_append,List.length_append]; show got.length+1+1≤_; omega,eP g3 G2⟩
  | _ =>
   simp only [ws]
   exact ⟨_,_,_,rfl,by rw [List.length_append]; show got.length+1≤_; omega,g3⟩
 ·obtain ⟨got,x11,x12,rfl,g1,g2⟩:=hI
  exact hq got x11 x12 (by omega) g2
end W22
namespace W22
open PySem L2 Pen2 Mch
variable {S W0:Nat} {es:List Bool} {gs:List (List (Option Nat))}
noncomputable def bR7:MS:=(ak (cR (bb (cN (af (e2 bE (ac 15) (aG (af (eC (.int 0)) ah))) (af (eSl cn (ac 15) b9 (bR (e1 ig (eC (.int 1))))) (af (eN jy (af (ac 15) ah)) (af (fG [((eC (.int 0)),(ac 7))]) (af (eC .none) ah))))))) (gN 11) eh) (aQ (e2 bE (ac 8) (aG (af (aG (af (aG ah) ah)) (af (aG ah) (af (eC .none) (af (eC (.bool true)) (af (eC (.int 0)) (af (eC (.str "table")) (af kc (af (e2 ixA (ac 2) (eC (.int 0))) (af (cN ah) ah)))))))))))))
noncomputable def bR6:MS:=(ak (ar 8 (e2 bE (ac 8) (aG (af (ac 14) (af (eN jy (af (ac 2) ah)) (af (aG (af (ac 2) ah)) (af (e2 bE (ac 2) (aG (af (aG ah) ah))) (af (e2 bE (ac 2) (aG (af (eC .none) ah))) ah)))))))) bR7)
noncomputable def bR5:MS:=(ak (ar 14 (eLC true (bb (ac 2)) (gN 0) cY fZ [none]))
 (ak (jB (cN (af (e2 ixA (ac 2) (ac 4)) (af (e2 ixA (ac 2) (ac 3)) ah))) (gT (gsC (gS 14 3) (gsC (gS 14 4) gs0))))
 (ak (ar 15 (e2 ixA (ac 2) (ac 3))) bR6)))
noncomputable def bR4:MS:=(ak (bQ (bP 8 (e2 bE (e2 bE (eSl cn (ac 2) b9 (bR (ac 3))) (aG (af (e2 ixA (ac 2) (ac 3)) ah))) (eSl cn (ac 2) (bR (ac 3)) b9)))) bR5)
noncomputable def bR3:MS:=(ak (ar 8 (e2 bE (ac 8) (aG (af (e2 bE (eSl cn (ac 2) b9 (bR (ac 3))) (eSl cn (ac 2) (bR (e2 aZ (ac 3) (eC (.int 1)))) b9)) (af (e2 jC (ac 2) (e1 ig (eC (.int 1)))) (af (eSl cn (ac 2) (bR (eC (.int 1))) b9) ah)))))) bR4)
noncomputable def bR2:MS:=(ak (ar 13 (aG (af (eN eT (af (e2 ixA (ac 2) (eC (.int 0))) ah)) ah)))
 (ak (fB 13 (pIx 13 (fQ 13) (eC (.int 0))) (ac 5) (e2 dw (eC (.int 1)) (e2 ixA (e2 ixA (ac 13) (eC (.int 0))) (ac 5))))
 (ak (bQ (bP 8 (ax bv (af (ac 1) (af (ac 13) (af (eN bd (af (ac 2) ah)) ah)))))) bR3)))
noncomputable def bR1:MS:=(ak (cR (bb (e2 bE (ac 10) (aG (af (eN nS (af (ac 7) ah)) (af (aG (af (ac 7) ah)) (af (cN (af (ac 7) ah)) ah)))))) (gN 11) ei) bR2)
theorem zB:iC=(ak (ar 3 (ax ap (aH 0 (af (eN bd (af (ac 2) ah)) ah))))
 (ak (ar 4 (ax ap (aH 0 (af (eN bd (af (ac 2) ah)) ah))))
 (ak (ar 5 (ax ap (aH 0 (af (eN bd (af (e2 ixA (ac 1) (eC (.int 0))) ah)) ah))))
 (ak (ar 6 (e2 aZ (eC (.int 1)) (ax ap (aH 0 (af (eC (.int 3)) ah)))))
 (ak (ar 7 (e2 ixA (e2 ixA (ac 2) (ac 3)) (ac 5)))
 (ak (ar 8 (aG ah))
 (ak (ar 9 (e2 aZ (ac 7) (e2 cy (e2 gp (eC (.int 10)) (eC (.int 60))) (e2 gp (eC (.int 10)) (eC (.int 10))))))
 (ak (ar 10 (aG (af (e2 aZ (ac 7) (ac 6)) (af (e2 dw (ac 7) (ac 6)) (af (ac 9) (af (e2 dw (eC (.int 0)) (ac 7)) (af (eC (.bool true)) (af (eC (.bool false)) (af (eC .none) ah))))))))) bR1)))))))):=rfl
theorem iY {got us:List D} (h:∀ u∈got,Good u) (hu:∀ u∈us,Good u):∀ u∈got++us,Good u:=fun u hm=>(List.mem_append.mp hm).elim (h u) (hu u)
theorem fW {us vs:List D} (h1:∀ t∈us,Rw t) (h2:∀ t∈vs,Rw t):∀ t∈us++vs,Rw t:=fun u hm=>(List.mem_append.mp hm).elim (h1 u) (h2 u)
theorem iN {t:D} (h:Rw t):∀ u∈[t],Rw u:=fun u hu=>by rw [List.mem_singleton.mp hu]; exact h
theorem ku {rows:List D} (h:∀ t∈rows,Rw t) (n:Nat):∀ t∈rows.take n,Rw t:=fun t ht=>h t (List.mem_of_mem_take ht)
theorem jl {rows:List D} (h:∀ t∈rows,Rw t) (n:Nat):∀ t∈rows.drop n,Rw t:=fun t ht=>h t (List.mem_of_mem_drop ht)
theorem Dw {rows:List D} (a:Nat):bX rows (some ((a:Int)+1)) none=rows.drop (a+1):=iq rows (a+1)
theorem zu {z:Int} (h1:0≤z) (h2:z≤1000000000):Rw (.dict [(.int 0,.int z)]):=by
 obtain ⟨a1,a2,a3,a4⟩:=Ft.int (i:=0) (by decide)
 obtain ⟨b1,b2,b3,b4⟩:=Ft.int (i:=z) (dm (by omega) (by omega))
 refine ⟨⟨?_,?_,?_,?_⟩,trivial⟩
 ·rw [PyData.showable,PyData.showableKv,PyData.showableKv,a1,b1]; rfl
 ·rw [PyData.depth,PyData.depthKv,PyData.depthKv]; omega
 ·rw [PyData.leavesShort,PyData.leavesShortKv,PyData.leavesShortKv,a3,b3]; rfl
 ·rw [PyData.bulk,PyData.bulkKv,PyData.bulkKv]; omega
theorem mW {it:MI} {g:MG} {b rest:MS} {en:En} {Q:Fl→Prop} (P:List D→Prop) (h:W (it en) (fun r=>r.2=en∧P r.1)) (h2:∀ ts,P ts→W (bS g b ts en) (mw rest Q)):W (ak (cR it g b) rest en) Q:=by
 simp only [ws]
 refine W.use h ?_
 rintro ⟨ts,e⟩ ⟨rfl,hp⟩
 exact h2 ts hp
theorem D4 {rows:List D} {a b:Nat} (T:Tb S rows a b) {ts:List D} (tl:ts.length≤5) (ht:∀ t∈ts,Rw t) {got:List D} (gl:got.length≤50) (hg:∀ t∈got,Good t)
  {p m o y h f th x11 x12 x13 x14 x15:Option D} {Q:Fl→Prop} (hq:∀ got' x11,got'.length≤55→(∀ t∈got',Good t)→Q (.nx [p,m,some (.list rows),some (.int (a:Int)),o,some (.int (b:Int)),y,h,some (.list got'),f,th,x11,x12,x13,x14,x15])) :
  W (bS (gN 11) eh ts [p,m,some (.list rows),some (.int (a:Int)),o,some (.int (b:Int)),y,h,some (.list got),f,th,x11,x12,x13,x14,x15]) Q:=by
 have hl:=T.l
 have hr:=T.rw
 refine ki (fun i en=>∃ got' x11,en=[p,m,some (.list rows),some (.int (a:Int)),o,some (.int (b:Int)),y,h,some (.list got'),f,th,x11,x12,x13,x14,x15]∧got'.length≤50+i∧∀ t∈got',Good t) ⟨got,_,rfl,gl,hg⟩ (fun i t en hti hI=>?_) fun en hI=>?_
 ·obtain ⟨got',x11,rfl,g1,g2⟩:=hI
  have hi:i < 5:=by have:=(List.getElem?_eq_some_iff.mp hti).1; omega
  have ct:bX rows none (some (a:Int))=rows.take a:=fU rows a
  have cd:bX rows (some ((a:Int)+1)) none=rows.drop (a+1):=Dw a
  simp only [ws,eh,ct,cd]
  have L:((rows.take a++[t])++rows.drop (a+1)).length≤10:=by
   rw [List.length_append,List.length_append,List.length_take,List.length_drop]
   show _+1+_≤10
   omega
  have G:Good (.list (rows.take a++[t]++rows.drop (a+1))):=Good.list L (fW (fW (ku hr a) (iN (ht t (List.mem_of_getElem? hti)))) (jl hr _))
  rw [List.length_append] at L
  refine ⟨?_,?_,?_,_,_,rfl,?_,eP g2 G⟩
  ·rw [List.length_append] at L; exact sz (by omega)
  ·exact sz (by omega)
  ·exact szl (by omega)
  ·rw [List.length_append]; show got'.length+1≤_; omega
 ·obtain ⟨got',x11,rfl,g1,g2⟩:=hI
  exact hq got' x11 (by omega) g2
theorem D6 {v:List Int} (vl:v.length≤7) (hv:∀ x∈v,0≤x∧x≤1000000000):∀ t∈[PyData.list [.list []],.list [],.none,.bool true,.int 0,.str (Str.ofString "table"),.dict [],.list (v.map .int),.tuple []],Good t:=by
 have r0:Rw (.list []):=Rw.list (Nat.zero_le _) fun _ h=>by cases h
 intro t ht
 simp only [List.mem_cons,List.not_mem_nil,or_false] at ht
 rcases ht with rfl | rfl | rfl | rfl | rfl | rfl | rfl | rfl | rfl
 ·exact Good.list (by decide) (iN r0)
 ·exact Good.list (by decide) fun _ h=>by cases h
 ·exact Good.of (Ft.none.mono (by decide) (by decide)) (by simp)
 ·exact Good.of (Ft.bool.mono (by decide) (by decide)) (by simp)
 ·exact Good.of ((Ft.int (dm (by decide) (by decide))).mono (by decide) (by decide)) (by simp)
 ·exact Good.of ((Ft.str (n:=5) (by decide) (by decide)).mono (by decide) (by decide)) (by simp)
 ·refine Good.of ⟨?_,?_,?_,?_⟩ (by simp) <;> simp [PyData.showable,PyData.showableKv,PyData.depth,PyData.depthKv,PyData.leavesShort,PyData.leavesShortKv,PyData.bulk,PyData.bulkKv]
 ·refine Good.list (by rw [List.length_map]; omega) fun t ht=>?_
  obtain ⟨i,hi,rfl⟩:=List.mem_map.mp ht
  have:=hv i hi
  exact ⟨(Ft.int (dm (by omega) (by omega))).mono (by decide) (by decide),trivial⟩
 ·exact Good.tup (by decide) fun _ h=>by cases h
theorem Dx {rows:List D} {a b:Nat} (T:Tb S rows a b) {v:List Int} (vl:v.length=S) (hv:∀ x∈v,0≤x∧x≤1000000000) {z:Int} (h1:0≤z) (h2:z≤1000000000) {got:List D} (gl:got.length≤50) (hg:∀ t∈got,Good t)
  {p m o y f th x11 x12 x13 x14:Option D} {Q:Fl→Prop} (hq:∀ ts x1 x2 x3 x4 x5 x6 x7 x8 x9 x10 x11 x12 x13 x14 x15,ts.length≤100→(∀ t∈ts,Good t)→Q (.rt (.list ts) [p,x1,x2,x3,x4,x5,x6,x7,x8,x9,x10,x11,x12,x13,x14,x15])) :
  W (bR7 [p,m,some (.list rows),some (.int (a:Int)),o,some (.int (b:Int)),y,some (.int z),some (.list got),f,th,x11,x12,x13,x14,some (.list (v.map .int))]) Q:=by
 have hS:=T.s
 have hl:=T.l
 obtain ⟨v0,e0,l0,c0⟩:=T.row (i:=0) (by have:=T.a; omega)
 have cv:∀ x∈v.map PyData.int,Cl x:=fun x hx=>by
  obtain ⟨i,hi,rfl⟩:=List.mem_map.mp hx
  have:=hv i hi
  exact (Ft.int (dm (by omega) (by omega))).mono (by decide) (by decide)
 unfold bR7
 refine mW (fun ts=>ts.length≤5∧∀ t∈ts,Rw t) ?_ fun ts ht=>D4 T ht.1 ht.2 gl hg fun got' x11 gl' hg'=>?_
 ·simp only [ws]
  refine ⟨sz (by rw [vl]; show S+1≤1000; omega),W.of (show fG [(eC (.int 0),ac 7)] _=some (.dict [(.int 0,.int z)],_) from rfl) ?_⟩
  simp only [ws]
  refine ⟨Nat.le_refl 5,fun t ht=>?_⟩
  simp only [List.mem_cons,List.not_mem_nil,or_false] at ht
  rcases ht with rfl | rfl | rfl | rfl | rfl
  ·refine Rw.list (by rw [List.length_append,List.length_map]; show _+1≤9; omega) fun x hx=>?_
   rcases List.mem_append.mp hx with hx | hx
   ·exact cv x hx
   ·rw [List.mem_singleton.mp hx]; exact (Ft.int (dm (by decide) (by decide))).mono (by decide) (by decide)
  ·refine Rw.list ?_ fun x hx=>cv x (List.mem_of_mem_drop (List.mem_of_mem_take hx))
   unfold bX
   rw [List.length_take,List.length_drop,List.length_map]
   omega
  ·exact Rw.tup (by rw [List.length_map]; omega) cv
  ·exact zu h1 h2
  ·exact Rw.non
 ·simp only [ws,kc,e0]
  refine ⟨sz (by show got'.length+9≤1000; omega),hq _ _ _ _ _ _ _ _ _ _ _ _ _ _ _ _ (by rw [List.length_append]; show got'.length+9≤100; omega) (iY hg' (D6 (by omega) c0))⟩
theorem Dy {rows:List D} {a b:Nat} (T:Tb S rows a b) {v:List Int} (vl:v.length=S) (hv:∀ x∈v,0≤x∧x≤1000000000) {z:Int} (h1:0≤z) (h2:z≤1000000000) {got sw:List D} (gl:got.length≤40) (hg:∀ t∈got,Good t) (sl:sw.length≤10) (hs:∀ t∈sw,Rw t)
  {p m o y f th x11 x12 x13:Option D} {Q:Fl→Prop} (hq:∀ ts x1 x2 x3 x4 x5 x6 x7 x8 x9 x10 x11 x12 x13 x14 x15,ts.length≤100→(∀ t∈ts,Good t)→Q (.rt (.list ts) [p,x1,x2,x3,x4,x5,x6,x7,x8,x9,x10,x11,x12,x13,x14,x15])) :
  W (bR6 [p,m,some (.list rows),some (.int (a:Int)),o,some (.int (b:Int)),y,some (.int z),some (.list got),f,th,x11,x12,x13,some (.list sw),some (.list (v.map .int))]) Q:=by
 have hl:=T.l
 have hr:=T.rw
 have r0:Rw (.list []):=Rw.list (Nat.zero_le _) fun _ h=>by cases h
 have l1:∀ t:D,(rows++[t]).length≤10:=fun t=>by rw [List.length_append]; show _+1≤10; omega
 simp only [ws,bR6]
 refine ⟨sz (by show rows.length+1≤1000; omega),sz (by show rows.length+1≤1000; omega),sz (by show got.length+5≤1000; omega),Dx T vl hv h1 h2 (by rw [List.length_append]; show got.length+5≤50; omega) (iY hg fun t ht=>?_) hq⟩
 simp only [List.mem_cons,List.not_mem_nil,or_false] at ht
 rcases ht with rfl | rfl | rfl | rfl | rfl
 ·exact Good.list sl hs
 ·exact Good.tup (by omega) hr
 ·exact Good.one (by omega) hr
 ·exact Good.list (l1 _) (fW hr (iN r0))
 ·exact Good.list (l1 _) (fW hr (iN Rw.non))
theorem CA {i j k:Nat} {t:D} {en:En} {ts:List D} (hj:(en[j]?).join=some (.int (k:Int))) (hi:(en[i]?).join=some (.list ts)) (hk:k < ts.length):gS i j t en=some (en.set i (some (.list (ts.set k t)))):=by
 unfold gS
 rw [hj,hi]
 show (ixN ts.length (k:Int)).map _=_
 rw [fK hk]
 rfl
theorem Dz {rows:List D} {a b:Nat} (T:Tb S rows a b) {o:Nat} (ho:o < rows.length) {z:Int} (h1:0≤z) (h2:z≤1000000000) {got:List D} (gl:got.length≤40) (hg:∀ t∈got,Good t)
  {p m y f th x11 x12 x13 x14 x15:Option D} {Q:Fl→Prop} (hq:∀ ts x1 x2 x3 x4 x5 x6 x7 x8 x9 x10 x11 x12 x13 x14 x15,ts.length≤100→(∀ t∈ts,Good t)→Q (.rt (.list ts) [p,x1,x2,x3,x4,x5,x6,x7,x8,x9,x10,x11,x12,x13,x14,x15])) :
  W (bR5 [p,m,some (.list rows),some (.int (a:Int)),some (.int (o:Int)),some (.int (b:Int)),y,some (.int z),some (.list got),f,th,x11,x12,x13,x14,x15]) Q:=by
 have hl:=T.l
 have hr:=T.rw
 obtain ⟨va,ea,la,ca⟩:=T.row T.a
 obtain ⟨vo,eo,lo,co⟩:=T.row ho
 have aa:atI rows (a:Int)=some (.list (va.map .int)):=by rw [aY]; exact ea
 have ao:atI rows (o:Int)=some (.list (vo.map .int)):=by rw [aY]; exact eo
 simp only [ws,bR5]
 refine dB (fun t=>t) (sz (by omega)) (fun t ht=>?_) fun x=>?_
 ·obtain ⟨v,rfl,_⟩:=T.r t ht
  simp only [ws,fZ,az]
 ·rw [List.map_id']
  simp only [ws,aa,ao]
  refine W.of (CA (k:=a) (ts:=rows) rfl rfl T.a) ?_
  simp only [ws]
  refine W.of (CA (k:=o) (ts:=rows.set a (.list (vo.map .int))) rfl rfl (by rw [List.length_set]; exact ho)) ?_
  simp only [ws,aa]
  refine Dy T la ca h1 h2 gl hg (by rw [List.length_set,List.length_set]; omega) (fun t ht=>?_) hq
  rcases List.mem_or_eq_of_mem_set ht with ht | rfl
  ·rcases List.mem_or_eq_of_mem_set ht with ht | rfl
   ·exact hr t ht
   ·exact hr _ (List.mem_of_getElem? eo)
  ·exact hr _ (List.mem_of_getElem? ea)
theorem DA {rows:List D} {a b:Nat} (T:Tb S rows a b) {o:Nat} (ho:o < rows.length) {z:Int} (h1:0≤z) (h2:z≤1000000000) {got:List D} (gl:got.length≤39) (hg:∀ t∈got,Good t)
  {p m y f th x11 x12 x13 x14 x15:Option D} {Q:Fl→Prop} (hq:∀ ts x1 x2 x3 x4 x5 x6 x7 x8 x9 x10 x11 x12 x13 x14 x15,ts.length≤100→(∀ t∈ts,Good t)→Q (.rt (.list ts) [p,x1,x2,x3,x4,x5,x6,x7,x8,x9,x10,x11,x12,x13,x14,x15])) :
  W (bR4 [p,m,some (.list rows),some (.int (a:Int)),some (.int (o:Int)),some (.int (b:Int)),y,some (.int z),some (.list got),f,th,x11,x12,x13,x14,x15]) Q:=by
 have hl:=T.l
 have hr:=T.rw
 obtain ⟨va,ea,la,ca⟩:=T.row T.a
 have aa:atI rows (a:Int)=some (.list (va.map .int)):=by rw [aY]; exact ea
 have ct:bX rows none (some (a:Int))=rows.take a:=fU rows a
 have cd:bX rows (some (a:Int)) none=rows.drop a:=iq rows a
 simp only [ws,bR4,aa,ct,cd]
 have L:((rows.take a++[PyData.list (va.map .int)])++rows.drop a).length≤10:=by
  rw [List.length_append,List.length_append,List.length_take,List.length_drop]
  show _+1+_≤10
  omega
 have G:Good (.list (rows.take a++[.list (va.map .int)]++rows.drop a)):=Good.list L (fW (fW (ku hr a) (iN (hr _ (List.mem_of_getElem? ea)))) (jl hr _))
 rw [List.length_append] at L
 refine ⟨?_,?_,?_,Dz T ho h1 h2 (by rw [List.length_append]; show got.length+1≤40; omega) (eP hg G) hq⟩
 ·rw [List.length_append] at L; exact sz (by omega)
 ·exact sz (by omega)
 ·exact szl (by omega)
theorem DB {rows:List D} {a b:Nat} (T:Tb S rows a b) {o:Nat} (ho:o < rows.length) {z:Int} (h1:0≤z) (h2:z≤1000000000) {got:List D} (gl:got.length≤36) (hg:∀ t∈got,Good t)
  {p m y f th x11 x12 x13 x14 x15:Option D} {Q:Fl→Prop} (hq:∀ ts x1 x2 x3 x4 x5 x6 x7 x8 x9 x10 x11 x12 x13 x14 x15,ts.length≤100→(∀ t∈ts,Good t)→Q (.rt (.list ts) [p,x1,x2,x3,x4,x5,x6,x7,x8,x9,x10,x11,x12,x13,x14,x15])) :
  W (bR3 [p,m,some (.list rows),some (.int (a:Int)),some (.int (o:Int)),some (.int (b:Int)),y,some (.int z),some (.list got),f,th,x11,x12,x13,x14,x15]) Q:=by
 have hl:=T.l
 have hr:=T.rw
 have ct:bX rows none (some (a:Int))=rows.take a:=fU rows a
 have cd:bX rows (some ((a:Int)+1)) none=rows.drop (a+1):=Dw a
 have c1:bX rows (some 1) none=rows.drop 1:=iq rows 1
 simp only [ws,bR3,ct,cd,c1]
 have L:(rows.take a++rows.drop (a+1)).length≤10:=by
  rw [List.length_append,List.length_take,List.length_drop]
  omega
 refine ⟨?_,?_,DA T ho h1 h2 (by rw [List.length_append]; show got.length+3≤39; omega) (iY hg fun t ht=>?_) hq⟩
 ·rw [List.length_append] at L; exact sz (by omega)
 ·exact sz (by show got.length+3≤1000; omega)
 ·simp only [List.mem_cons,List.not_mem_nil,or_false] at ht
  rcases ht with rfl | rfl | rfl
  ·exact Good.list L (fW (ku hr a) (jl hr _))
  ·exact Good.list (by rw [List.length_reverse]; omega) fun t ht=>hr t (List.mem_reverse.mp ht)
  ·exact Good.list (by rw [List.length_drop]; omega) (jl hr _)
end W22
namespace W22
open PySem L2 Pen2 Mch
variable {S W0:Nat} {es:List Bool} {gs:List (List (Option Nat))}
theorem BI {v:List Int} {b:Nat} (hb:b < v.length) {p m r a o y h g f th x11 x12 x14 x15:Option D} :
  fB 13 (pIx 13 (fQ 13) (eC (.int 0))) (ac 5) (e2 dw (eC (.int 1)) (e2 ixA (e2 ixA (ac 13) (eC (.int 0))) (ac 5))) [p,m,r,a,o,some (.int (b:Int)),y,h,g,f,th,x11,x12,some (.list [.list (v.map .int)]),x14,x15]=some (.nx [p,m,r,a,o,some (.int (b:Int)),y,h,g,f,th,x11,x12,some (.list [.list ((v.map .int).set b (.int (1 - v.getD b 0)))]),x14,x15]):=by
 have hl:b < (v.map PyData.int).length:=by rw [List.length_map]; exact hb
 have fe:e2 dw (eC (.int 1)) (e2 ixA (e2 ixA (ac 13) (eC (.int 0))) (ac 5)) [p,m,r,a,o,some (.int (b:Int)),y,h,g,f,th,x11,x12,some (.list [.list (v.map .int)]),x14,x15]=some (.int (1 - v.getD b 0),[p,m,r,a,o,some (.int (b:Int)),y,h,g,f,th,x11,x12,some (.list [.list (v.map .int)]),x14,x15]):=bA rfl (bA (t1:=az v) (bA rfl rfl rfl) rfl (nC hb)) rfl
 show ((e2 dw (eC (.int 1)) (e2 ixA (e2 ixA (ac 13) (eC (.int 0))) (ac 5)) [p,m,r,a,o,some (.int (b:Int)),y,h,g,f,th,x11,x12,some (.list [.list (v.map .int)]),x14,x15]).bind fun w=>_)=_
 rw [fe]
 show (ixN (v.map PyData.int).length (b:Int)).map _=_
 rw [fK hl]
 rfl
theorem DC (M:MOk S W0 es gs) {rows:List D} {a b:Nat} (T:Tb S rows a b) {o:Nat} (ho:o < rows.length) {z:Int} (h1:0≤z) (h2:z≤1000000000) {got:List D} (gl:got.length≤35) (hg:∀ t∈got,Good t)
  {p y f th x11 x12 x13 x14 x15:Option D} {Q:Fl→Prop} (hq:∀ ts x1 x2 x3 x4 x5 x6 x7 x8 x9 x10 x11 x12 x13 x14 x15,ts.length≤100→(∀ t∈ts,Good t)→Q (.rt (.list ts) [p,x1,x2,x3,x4,x5,x6,x7,x8,x9,x10,x11,x12,x13,x14,x15])) :
  W (bR2 [p,some (aU es gs),some (.list rows),some (.int (a:Int)),some (.int (o:Int)),some (.int (b:Int)),y,some (.int z),some (.list got),f,th,x11,x12,x13,x14,x15]) Q:=by
 have hS:=T.s
 have hl:=T.l
 obtain ⟨v,e0,l0,c0⟩:=T.row (i:=0) (by have:=T.a; omega)
 have vb:b < v.length:=by rw [l0]; exact T.b
 simp only [ws,bR2,e0]
 refine W.of (BI vb) ?_
 simp only [ws]
 refine W.use (kP M (c:=10 ^ 71) (by decide) (rows:=[.list ((v.map .int).set b (.int (1 - v.getD b 0)))]) (by simp) (by show 1≤10; decide) (fun t ht=>?_) (by omega)) ?_
 ·rw [List.mem_singleton.mp ht]
  refine ⟨_,rfl,by rw [List.length_set,List.length_map,l0],fun x hx=>?_⟩
  rcases List.mem_or_eq_of_mem_set hx with hx | rfl
  ·obtain ⟨i,hi,rfl⟩:=List.mem_map.mp hx
   have:=c0 i hi
   exact n8 rfl (by omega) (by omega)
  ·rw [List.getD_eq_getElem?_getD,List.getElem?_eq_getElem vb]
   have:=c0 _ (List.getElem_mem vb)
   exact n8 rfl (by show _≤1 - v[b]; omega) (by show 1 - v[b]≤_; omega)
 ·rintro _ ⟨us,rfl,ul,un⟩
  simp only [ws]
  refine ⟨szl (by omega),DB T ho h1 h2 (by rw [List.length_append]; show got.length+1≤36; omega) (eP hg (nv (by decide) (by omega) ul un)) hq⟩
theorem DD (M:MOk S W0 es gs) {rows:List D} {a b:Nat} (T:Tb S rows a b) {o:Nat} (ho:o < rows.length) {z:Int} (h1:0≤z) (h2:z≤1000000000) {ts:List D} (tl:ts.length≤7) (ht:∀ t∈ts,Cl t) (hn:∀ t∈ts,∀ i,t=.int i→-(10 ^ 71)≤i∧i≤10 ^ 71)
  {p y f x13 x14 x15:Option D} {Q:Fl→Prop} (hq:∀ ts x1 x2 x3 x4 x5 x6 x7 x8 x9 x10 x11 x12 x13 x14 x15,ts.length≤100→(∀ t∈ts,Good t)→Q (.rt (.list ts) [p,x1,x2,x3,x4,x5,x6,x7,x8,x9,x10,x11,x12,x13,x14,x15])) :
  W (bR1 [p,some (aU es gs),some (.list rows),some (.int (a:Int)),some (.int (o:Int)),some (.int (b:Int)),y,some (.int z),some (.list []),f,some (.list ts),none,none,x13,x14,x15]) Q:=by
 have hz:z.natAbs < 2 ^ 1920:=dm (by omega) (by omega)
 have lg:z.natAbs.log2 < 1920:=by
  by_cases q:z.natAbs=0
  ·rw [q]; decide
  ·exact (Nat.log2_lt q).mpr hz
 have sd:nS [.int z]=some (.str (toString z)):=if_pos lg
 have ci:Ft 0 0 (.int z):=Ft.int hz
 unfold bR1
 refine mW (fun us=>us.length≤10∧(∀ t∈us,Cl t)∧∀ t∈us,∀ i,t=.int i→-(10 ^ 71)≤i∧i≤10 ^ 71) ?_ fun us hu=>D5 M T hu.1 hu.2.1 hu.2.2 fun got x11 x12 gl hg=>?_
 ·simp only [ws,sd]
  refine ⟨sz (by show ts.length+3≤1000; omega),by rw [List.length_append]; show ts.length+3≤10; omega,fun t hm=>?_,fun t hm i e=>?_⟩
  ·rcases List.mem_append.mp hm with hm | hm
   ·exact ht t hm
   ·simp only [List.mem_cons,List.not_mem_nil,or_false] at hm
    rcases hm with rfl | rfl | rfl
    ·have l:(Str.ofString (toString z)).length≤10:=PyProof.Rows.toString_length_le h1 (by decide) (by omega)
     exact (Ft.str (n:=10) (fun c hc=>by
      rw [PyProof.Rows.signs_ofString] at hc
      obtain ⟨ch,_,rfl⟩:=List.mem_map.mp hc
      exact Nat.lt_of_lt_of_le ch.val.toNat_lt (by decide)) l).mono (by decide) (by decide)
    ·exact (Ft.list (L:=1) (b:=0) (d:=0) (Nat.le_refl _) fun t ht=>by rw [List.mem_singleton.mp ht]; exact ci).mono (by decide) (by decide)
    ·exact (Ft.tup (L:=1) (b:=0) (d:=0) (Nat.le_refl _) fun t ht=>by rw [List.mem_singleton.mp ht]; exact ci).mono (by decide) (by decide)
  ·rcases List.mem_append.mp hm with hm | hm
   ·exact hn t hm i e
   ·simp only [List.mem_cons,List.not_mem_nil,or_false] at hm
    rcases hm with rfl | rfl | rfl <;> cases e
 ·exact DC M T ho h1 h2 (by omega) hg hq
theorem fN {ns:List Int} {k l m:Int} (h0:0≤k) (h1:k≤1000000000) (h2:0≤l) (h3:0 < m) (h4:m < 1073741824) :
  W (ap [aC ns k l,.int m]) (fun q=>∃ (r:Nat) (k' l':Int),q=(.int (r:Int),[some (aC ns k' l'),none])∧(r:Int) < m∧k≤k'∧k'≤k+1∧0≤l'):=by
 obtain ⟨r,k',l',e,a0,a1,a2,a3,a4⟩:=ni (ns:=ns) h0 h1 h2 h3 h4
 obtain ⟨n,rfl⟩:=Int.eq_ofNat_of_zero_le a0
 exact W.of e ⟨n,k',l',rfl,a1,a2,a3,a4⟩
theorem zA (M:MOk S W0 es gs) (hS:S≤7) {rows:List D} (r1:1≤rows.length) (r2:rows.length≤6) (hr:∀ t∈rows,IntR S t) {ns:List Int} :
  W (dq [aC ns 31 0,aU es gs,.list rows]) (fun r=>∃ ts q,r=(.list ts,[q,none,none])∧ts.length≤100∧∀ t∈ts,Good t):=by
 have s1:=M.s1
 simp only [ws,dq,zB]
 refine W.use (fN (by decide) (by decide) (by decide) (by omega) (by omega)) ?_
 rintro _ ⟨a,k1,l1,rfl,a1,a2,a3,a4⟩
 simp only [ws]
 refine W.use (fN (by omega) (by omega) a4 (by omega) (by omega)) ?_
 rintro _ ⟨o,k2,l2,rfl,b1,b2,b3,b4⟩
 simp only [ws,aU,List.length_map,M.le]
 refine W.use (fN (by omega) (by omega) b4 (by omega) (by omega)) ?_
 rintro _ ⟨b,k3,l3,rfl,c1,c2,c3,c4⟩
 simp only [ws]
 refine W.use (fN (by omega) (by omega) c4 (by decide) (by decide)) ?_
 rintro _ ⟨y,k4,l4,rfl,d1,d2,d3,d4⟩
 have T:Tb S rows a b:=⟨hS,r2,hr,by omega,by omega⟩
 obtain ⟨v,e0,l0,c0⟩:=T.row T.a
 have vb:b < v.length:=by omega
 have aa:atI rows (a:Int)=some (.list (v.map .int)):=by rw [aY]; exact e0
 have ab:atI (v.map PyData.int) (b:Int)=some (.int v[b]):=by rw [aY,List.getElem?_map,List.getElem?_eq_getElem vb]; rfl
 have hz:=c0 _ (List.getElem_mem vb)
 generalize v[b]=z at ab hz
 simp only [ws,aa,ab]
 have e70:(10:Int) ^ Int.toNat 60 * 10 ^ Int.toNat 10=10 ^ 70:=by decide
 refine ⟨by unfold ga; decide,by unfold ga; decide,by unfold CMul; decide,?_⟩
 rw [e70]
 refine DD M T (o:=o) (by omega) hz.1 hz.2 (by show 7≤7; decide) (fun t ht=>?_) (fun t ht i e=>?_) fun ts x1 x2 x3 x4 x5 x6 x7 x8 x9 x10 x11 x12 x13 x14 x15 tl tg=>?_
 ·have I:∀ i:Int,-(10 ^ 71)≤i→i≤10 ^ 71→Cl (.int i):=fun i h1 h2=>(Ft.int (dm (by omega) (by omega))).mono (by decide) (by decide)
  simp only [List.mem_cons,List.not_mem_nil,or_false] at ht
  rcases ht with rfl | rfl | rfl | rfl | rfl | rfl | rfl
  ·exact I _ (by omega) (by omega)
  ·exact I _ (by omega) (by omega)
  ·exact I _ (by omega) (by omega)
  ·exact I _ (by omega) (by omega)
  ·exact Ft.bool.mono (by decide) (by decide)
  ·exact Ft.bool.mono (by decide) (by decide)
  ·exact Ft.none.mono (by decide) (by decide)
 ·simp only [List.mem_cons,List.not_mem_nil,or_false] at ht
  rcases ht with rfl | rfl | rfl | rfl | rfl | rfl | rfl <;> cases e <;> omega
 ·simp only [ws]
  exact ⟨_,_,rfl,tl,tg⟩
end W22
namespace W22
open PySem L2 Pen2 Mch
variable {S W0:Nat} {es:List Bool} {gs:List (List (Option Nat))}
theorem xy (M:MOk S W0 es gs) {n N:Nat} (hn:n≤N) {x:Int} (hx:x∈it gs (base es) n):0≤x∧x≤((12 ^ N:Nat):Int):=by
 obtain ⟨h1,h2⟩:=M.itB n x hx
 refine ⟨h1,Int.le_trans h2 (Int.ofNat_le.mpr ?_)⟩
 exact Nat.le_trans (Nat.pow_le_pow_left M.w2 n) (Nat.pow_le_pow_right (by decide) hn)
theorem h9 (M:MOk S W0 es gs) (hS:S≤7) {n:Nat} (hn:n≤64):Good (eD gs es n):=by
 have R:∀ t∈fh gs es n,Ft 1 7 t∧Sm t:=fun t ht=>by
  obtain ⟨i,hi,rfl⟩:=List.mem_map.mp ht
  have hi':=List.mem_range.mp hi
  have l:=M.lit i
  refine ⟨Ft.list (L:=7) (d:=0) (b:=0) (by rw [List.length_map,l]; exact hS) fun u hu=>?_,by show ((it gs (base es) i).map PyData.int).length≤1000; rw [List.length_map,l]; omega⟩
  obtain ⟨x,hx,rfl⟩:=List.mem_map.mp hu
  obtain ⟨x1,x2⟩:=xy M (N:=64) (by omega) hx
  have b:((12 ^ 64:Nat):Int)≤10 ^ 100:=by decide
  exact Ft.int (dm (by omega) (by omega))
 have L:(fh gs es n).length≤65:=by rw [fO]; omega
 refine ⟨(Ft.list (ts:=fh gs es n) L fun t ht=>(R t ht).1).mono (by decide) (by decide),by show (fh gs es n).length≤1000; omega,fun ts e=>?_⟩
 have e':fh gs es n=ts:=PyData.list.inj e
 subst e'
 exact ⟨by omega,fun u hu=>(R u hu).2⟩
theorem xF (M:MOk S W0 es gs) {n:Nat} (hn:n≤5):∀ t∈fh gs es n,IntR S t:=fun t ht=>by
 obtain ⟨i,hi,rfl⟩:=List.mem_map.mp ht
 have hi':=List.mem_range.mp hi
 refine ⟨_,rfl,M.lit i,fun x hx=>?_⟩
 obtain ⟨x1,x2⟩:=xy M (N:=5) (by omega) hx
 have b:((12 ^ 5:Nat):Int)≤1000000000:=by decide
 exact ⟨x1,by omega⟩
theorem mh:∀ es:List Bool,aE (es.map .bool)=true∧bj (es.map .bool)=0∧bp (es.map .bool) (es.map .bool)=true
 | []=>⟨by simp [aE],by simp [bj],by simp [bp]⟩
 | b :: r=>by
  obtain ⟨h1,h2,h3⟩:=mh r
  refine ⟨?_,?_,?_⟩
  ·simp [aE,aw,h1]
  ·simp [bj,cW,h2]
  ·simp [bp,peq,h3]
theorem pf:∀ r:List (Option Nat),aE (r.map goD)=true∧bj (r.map goD)=0∧bp (r.map goD) (r.map goD)=true
 | []=>⟨by simp [aE],by simp [bj],by simp [bp]⟩
 | b :: r=>by
  obtain ⟨h1,h2,h3⟩:=pf r
  cases b with
  | none=>exact ⟨by simp [aE,aw,goD,h1],by simp [bj,cW,goD,h2],by simp [bp,peq,goD,h3]⟩
  | some j=>exact ⟨by simp [aE,aw,goD,h1],by simp [bj,cW,goD,h2],by simp [bp,peq,goD,h3]⟩
theorem nw:∀ gs:List (List (Option Nat)),aE (gs.map aI)=true∧bj (gs.map aI)≤1∧bp (gs.map aI) (gs.map aI)=true
 | []=>⟨by simp [aE],by simp [bj],by simp [bp]⟩
 | b :: r=>by
  obtain ⟨h1,h2,h3⟩:=nw r
  obtain ⟨g1,g2,g3⟩:=pf b
  refine ⟨?_,?_,?_⟩
  ·simp [aE,aw,aI,h1,g1]
  ·simp [bj,cW,aI,g2]; omega
  ·simp [bp,peq,aI,h3,g3]
theorem yn (es:List Bool) (gs:List (List (Option Nat))):neD (aU es gs) (aU es gs)=some (.bool false):=by
 obtain ⟨h1,h2,h3⟩:=mh es
 obtain ⟨g1,g2,g3⟩:=nw gs
 have n:aw (aU es gs)=true:=by simp [aU,aw,aE,h1,g1]
 have d:cW (aU es gs)≤60:=by
  have:cW (aU es gs)=max (bj (es.map .bool)+1) (max (bj (gs.map aI)+1) 0)+1:=by simp [aU,cW,bj]
  rw [this,h2]
  omega
 have p:peq (aU es gs) (aU es gs)=true:=by simp [aU,peq,bp,h3,g3]
 unfold neD grd
 rw [if_pos ⟨n,n,d⟩,p]
 rfl
theorem xE (M:MOk S W0 es gs) {t:D} (h:Good t) {x0 x1 x2 x4 x5 x7 x8 x9:Option D} {J:En→Prop} {Q:Fl→Prop} (hj:∀ x8 x9,J [x0,x1,x2,some (aU es gs),x4,x5,some (aU es gs),some t,x8,x9]) :
  W (gN 7 t [x0,x1,x2,some (aU es gs),x4,x5,some (aU es gs),x7,x8,x9]) (kFg mY J Q):=by
 obtain ⟨z,hz⟩:=h.1.rep
 simp only [ws,mY,hz]
 refine W.use (mD M h.2.1 fun ts e=>(h.2.2 ts e).2) ?_
 rintro _ ⟨c,rfl,hc⟩
 simp only [ws]
 refine W.use (D7 M (fun ts e=>(h.2.2 ts e).1) fun ts e=>(h.2.2 ts e).2) ?_
 rintro _ ⟨c',rfl,hc'⟩
 have e:c'=c:=Bool.eq_iff_iff.mpr (hc'.trans hc.symm)
 subst e
 cases c' <;> simp only [ws,hz,yn] <;> exact hj _ _
theorem qE:Ci oR:=by
 intro ns hn
 suffices W (oR [.list (ns.map .int)]) (fun r=>∃ o,r=(.bool true,o)) by
  obtain ⟨_,e,o,rfl⟩:=this.ex
  exact ⟨o,e⟩
 obtain ⟨s,k1,l1,e1,a1,a2,a3,a4,a5⟩:=qv (ns:=ns) (k:=0) (l:=0) (by decide) (by decide) (by decide)
 obtain ⟨es,gs,k2,l2,e2,b1,b2,b3,b4,b5,b6,b7⟩:=ym (mo:=7) (ns:=ns) (k:=k1) (l:=l1) (W:=s) (by decide) (by decide) a2 (by omega) (by omega) a5
 have M:MOk es.length s es gs:=⟨b1,by omega,a1,a2,rfl,b3,b4⟩
 simp only [ws,oR,rK]
 refine W.of (show cr [.list (ns.map .int),.int 0]=some (aC ns 0 0,[none,none]) from rfl) ?_
 simp only [ws]
 refine W.of e1 ?_
 simp only [ws]
 refine W.of e2 ?_
 simp only [ws]
 refine W.use (fN (by omega) (by omega) b7 (by decide) (by decide)) ?_
 rintro _ ⟨n1,k3,l3,rfl,c1,c2,c3,c4⟩
 simp only [ws]
 refine W.use (fN (by omega) (by omega) c4 (by decide) (by decide)) ?_
 rintro _ ⟨n2,k4,l4,rfl,d1,d2,d3,d4⟩
 simp only [ws]
 simp only [qg,ws]
 refine W.use (cT M (N:=0) (by decide)) ?_
 rintro _ rfl
 simp only [ws]
 refine W.use (cT M (N:=n1) (by omega)) ?_
 rintro _ rfl
 simp only [ws]
 rw [show (61+(n2:Int))=((61+n2:Nat):Int) by omega]
 refine W.use (cT M (N:=61+n2) (by omega)) ?_
 rintro _ rfl
 simp only [ws]
 refine W.of (show cr [.list (ns.map .int),.int 31]=some (aC ns 31 0,[none,none]) from rfl) ?_
 simp only [ws]
 refine W.use (fN (by omega) (by omega) d4 (by decide) (by decide)) ?_
 rintro _ ⟨n3,k5,l5,rfl,f1,f2,f3,f4⟩
 simp only [ws]
 rw [show (1+(n3:Int))=((1+n3:Nat):Int) by omega]
 refine W.use (cT M (N:=1+n3) (by omega)) ?_
 rintro _ rfl
 simp only [ws]
 refine W.use (zA M (by omega) (rows:=fh gs es (1+n3)) (by rw [fO]; omega) (by rw [fO]; omega) (xF M (by omega))) ?_
 rintro _ ⟨ts,q,rfl,tl,tg⟩
 simp only [ws,aU]
 refine ⟨sz (by show 3+ts.length≤1000; omega),?_⟩
 obtain ⟨xs,hx⟩:∃ xs,(eD gs es 0 :: eD gs es n1 :: eD gs es (61+n2) :: ts)=xs:=⟨_,rfl⟩
 have x1:xs[1]?=some (eD gs es n1):=by rw [← hx]; rfl
 have xl:xs.length≤103:=by rw [← hx]; show ts.length+3≤103; omega
 have xg:∀ t∈xs,Good t:=fun t ht=>by
  rw [← hx] at ht
  simp only [List.mem_cons] at ht
  rcases ht with rfl | rfl | rfl | ht
  ·exact h9 M (by omega) (by decide)
  ·exact h9 M (by omega) (by omega)
  ·exact h9 M (by omega) (by omega)
  ·exact tg t ht
 rw [hx]
 refine dB (fun t=>t) (by rw [List.length_map,b3]; exact sz (by omega)) (fun t ht=>?_) fun o=>?_
 ·obtain ⟨r,_,rfl⟩:=List.mem_map.mp ht
  simp only [ws,qf,aI]
 ·rw [List.map_id']
  simp only [ws]
  refine ⟨sz (by rw [List.length_reverse]; omega),?_⟩
  refine DE (fun en=>∃ x7 x8 x9,en=[some (.list (ns.map .int)),some (aC ns k5 l5),some (.int (s:Int)),some (aU es gs),some (.list [.int 0,.int (n1:Int),.int ((61+n2:Nat):Int)]),some (.list xs),some (aU es gs),x7,x8,x9]) ⟨none,none,none,rfl⟩ (fun t ht en hJ=>?_) fun en hJ=>?_
  ·obtain ⟨x7,x8,x9,rfl⟩:=hJ
   refine xE M (xg t ?_) fun x8 x9=>⟨_,_,_,rfl⟩
   rcases List.mem_append.mp ht with ht | ht
   ·exact ht
   ·exact List.mem_reverse.mp ht
  ·obtain ⟨x7,x8,x9,rfl⟩:=hJ
   simp only [ws,x1]
   have G:=h9 M (S:=es.length) (by omega) (n:=n1) (by omega)
   refine W.use (mD M G.2.1 fun ts e=>(G.2.2 ts e).2) ?_
   rintro _ ⟨c,rfl,hc⟩
   rw [hc.mpr ⟨n1,rfl⟩]
   simp only [ws]
   exact ⟨_,rfl⟩
end W22
set_option maxHeartbeats 4000000
namespace W22
open PySem L2
theorem oh {α β:Type} {us:List α} {x0:β} (h:us.length=[x0].length):∃ a0,us=[a0]:=by
 cases us with
 | nil=>cases h
 | cons a0 r=>exact ⟨a0,by rw [List.length_eq_zero_iff.mp (show r.length=0 from Nat.succ.inj h)]⟩
theorem ik {α β:Type} {us:List α} {x0 x1:β} (h:us.length=[x0,x1].length):∃ a0 a1,us=[a0,a1]:=by
 cases us with
 | nil=>cases h
 | cons a0 r=>obtain ⟨a1,rfl⟩:=oh (us:=r) (x0:=x1) (Nat.succ.inj h); exact ⟨a0,a1,rfl⟩
theorem og {α β:Type} {us:List α} {x0 x1 x2:β} (h:us.length=[x0,x1,x2].length):∃ a0 a1 a2,us=[a0,a1,a2]:=by
 cases us with
 | nil=>cases h
 | cons a0 r=>obtain ⟨a1,a2,rfl⟩:=ik (us:=r) (x0:=x1) (x1:=x2) (Nat.succ.inj h); exact ⟨a0,a1,a2,rfl⟩
theorem Cf {α β:Type} {us:List α} {x0 x1 x2 x3:β} (h:us.length=[x0,x1,x2,x3].length):∃ a0 a1 a2 a3,us=[a0,a1,a2,a3]:=by
 cases us with
 | nil=>cases h
 | cons a0 r=>obtain ⟨a1,a2,a3,rfl⟩:=og (us:=r) (x0:=x1) (x1:=x2) (x2:=x3) (Nat.succ.inj h); exact ⟨a0,a1,a2,a3,rfl⟩
theorem all_mk {l:PySem.W.OpenLaw} {w:World} {K:PySem.W.Frag} {h:Heap} {mg:Str→Option Value} {fa f0 f1 f2 f3 f4 f5 f6 f7 f8 f9 f10 f11 f12 f13 f14 f15 f16:Addr}  (X:K.In h) (G:h.Ns mainGlobals mg) (hfa:mg "law"=some (.ref fa))
  (d0:Df K "is_whole" i3 f0)
  (d1:Df K "numbers_of_none" cD f1)
  (d2:Df K "numbers_of_one_more" bU f2)
  (d3:Df K "are_numbers" ee f3)
  (d4:Df K "holds_table" da f4)
  (d5:Df K "_law_pen" i4 f5)
  (d6:Df K "_law_mixed" gC f6)
  (d7:Df K "_law_take" iw f7)
  (d8:Df K "_law_signs" gB f8)
  (d9:Df K "_law_goal" iy f9)
  (d10:Df K "_law_machine" cF f10)
  (d11:Df K "_law_table" dC f11)
  (d12:Df K "_law_onward" db f12)
  (d13:Df K "_law_is_table" eQ f13)
  (d14:Df K "_law_put" gj f14)
  (d15:Df K "_law_bent" fH f15)
  (d16:Df K "law" iu f16)
  (z0:PySem.W.nsIn K mainGlobals "abs"=some none)
  (z1:PySem.W.nsIn K mainGlobals "all"=some none)
  (z2:PySem.W.nsIn K mainGlobals "bool"=some none)
  (z3:PySem.W.nsIn K mainGlobals "int"=some none)
  (z4:PySem.W.nsIn K mainGlobals "isinstance"=some none)
  (z5:PySem.W.nsIn K mainGlobals "len"=some none)
  (z6:PySem.W.nsIn K mainGlobals "list"=some none)
  (z7:PySem.W.nsIn K mainGlobals "range"=some none)
  (z8:PySem.W.nsIn K mainGlobals "repr"=some none)
  (z9:PySem.W.nsIn K mainGlobals "str"=some none)
  (z10:PySem.W.nsIn K mainGlobals "sum"=some none)
  (z11:PySem.W.nsIn K mainGlobals "tuple"=some none)
  (z12:PySem.W.nsIn K mainGlobals "zip"=some none) :
  ∃ fd:FuncData,(∀ (s:Shared) (v:Value),BindsTo s fd ⟨[v],[]⟩ [("_law_script",v)])∧∀ base:Heap,K.In base→base.Ns mainGlobals mg→FnOk l.prog w K mg base CX0 5 fa fd ["_law_script"] (jT K):=by
 have e:=hfa.symm.trans (PySem.W.mg_of X G d16.a)
 cases e
 have T:Bl mg:=⟨PySem.W.mg_none_of X G z0,PySem.W.mg_none_of X G z1,PySem.W.mg_none_of X G z2,PySem.W.mg_none_of X G z3,PySem.W.mg_none_of X G z4,PySem.W.mg_none_of X G z5,PySem.W.mg_none_of X G z6,PySem.W.mg_none_of X G z7,PySem.W.mg_none_of X G z8,PySem.W.mg_none_of X G z9,PySem.W.mg_none_of X G z10,PySem.W.mg_none_of X G z11,PySem.W.mg_none_of X G z12⟩
 obtain ⟨oc,od,kV,dc,pm,an,cd,ct,sl,ll,lc⟩:=d16.l
 have FL:=pG (st:=iu) ll lc d16.k
 refine ⟨PySem.W.fnOf "law" "law" (dQ iu) (cL iu) (aq iu) .none kV dc pm an cd ct,fun s v=>.of_eq rfl,fun base _ _=>?_⟩
 have g0:Kn l.prog w K mg base 1 "is_whole" ["thing"] (spF K [0] 3 dR):=d0.kn X G (fun _ _ _ _ _ _ us hl=>by obtain ⟨a0,rfl⟩:=oh hl; rfl) fun _ F=>nY (k:=0) T   F
 have g1:Kn l.prog w K mg base 1 "numbers_of_none" ["machine"] (spF K [0] 3 bF):=d1.kn X G (fun _ _ _ _ _ _ us hl=>by obtain ⟨a0,rfl⟩:=oh hl; rfl) fun _ F=>jn (k:=0) T   F
 have g2:Kn l.prog w K mg base 1 "numbers_of_one_more" ["machine", "fewer"] (spF K [0,0] 3 bg):=d2.kn X G (fun _ _ _ _ _ _ us hl=>by obtain ⟨a0,a1,rfl⟩:=ik hl; rfl) fun _ F=>gJ (k:=0) T   F
 have g3:Kn l.prog w K mg base 2 "are_numbers" ["many", "thing"] (spF K [0,0] 3 bZ):=d3.kn X G (fun _ _ _ _ _ _ us hl=>by obtain ⟨a0,a1,rfl⟩:=ik hl; rfl) fun _ F=>lu (k:=1) T  (g0.mono (by decide)) F
 have g4:Kn l.prog w K mg base 3 "holds_table" ["machine", "thing"] (spF K [0,0] 3 bJ):=d4.kn X G (fun _ _ _ _ _ _ us hl=>by obtain ⟨a0,a1,rfl⟩:=ik hl; rfl) fun _ F=>ls (k:=2) T  (g1.mono (by decide)) (g3.mono (by decide)) (g2.mono (by decide)) F
 have g5:Kn l.prog w K mg base 1 "_law_pen" ["_law_script", "_law_first"] (spF K [0,0] 1 cr):=d5.kn X G (fun _ _ _ _ _ _ us hl=>by obtain ⟨a0,a1,rfl⟩:=ik hl; rfl) fun _ F=>n6 (k:=0) T   F
 have g6:Kn l.prog w K mg base 1 "_law_mixed" ["_law_cell", "_law_k"] (spF K [0,0] 3 bV):=d6.kn X G (fun _ _ _ _ _ _ us hl=>by obtain ⟨a0,a1,rfl⟩:=ik hl; rfl) fun _ F=>me (k:=0) T   F
 have g7:Kn l.prog w K mg base 2 "_law_take" ["_law_pen_here", "_law_most"] (spF K [1,0] 0 ap):=d7.kn X G (fun _ _ _ _ _ _ us hl=>by obtain ⟨a0,a1,rfl⟩:=ik hl; rfl) fun _ F=>m5 (k:=1) T  (g6.mono (by decide)) F
 have g8:Kn l.prog w K mg base 3 "_law_signs" ["_law_pen_here"] (spF K [1] 0 cM):=d8.kn X G (fun _ _ _ _ _ _ us hl=>by obtain ⟨a0,rfl⟩:=oh hl; rfl) fun _ F=>ma (k:=2) T  (g7.mono (by decide)) F
 have g9:Kn l.prog w K mg base 3 "_law_goal" ["_law_pen_here", "_law_stand", "_law_stands", "_law_way"] (spF K [1,0,0,0] 0 bw):=d9.kn X G (fun _ _ _ _ _ _ us hl=>by obtain ⟨a0,a1,a2,a3,rfl⟩:=Cf hl; rfl) fun _ F=>m6 (k:=2) T  (g7.mono (by decide)) F
 have g10:Kn l.prog w K mg base 4 "_law_machine" ["_law_pen_here", "_law_signs_here", "_law_most"] (spF K [1,0,0] 0 ce):=d10.kn X G (fun _ _ _ _ _ _ us hl=>by obtain ⟨a0,a1,a2,rfl⟩:=og hl; rfl) fun _ F=>kx (k:=3) T  (g7.mono (by decide)) (g9.mono (by decide)) F
 have g11:Kn l.prog w K mg base 1 "_law_table" ["_law_machine_here", "_law_most"] (spF K [0,0] 0 bI):=d11.kn X G (fun _ _ _ _ _ _ us hl=>by obtain ⟨a0,a1,rfl⟩:=ik hl; rfl) fun _ F=>l9 (k:=0) T   F
 have g12:Kn l.prog w K mg base 1 "_law_onward" ["_law_machine_here", "_law_lists", "_law_size"] (spF K [0,0,0] 0 bv):=d12.kn X G (fun _ _ _ _ _ _ us hl=>by obtain ⟨a0,a1,a2,rfl⟩:=og hl; rfl) fun _ F=>lw (k:=0) T   F
 have g13:Kn l.prog w K mg base 2 "_law_is_table" ["_law_machine_here", "_law_thing"] (spF K [0,0] 3 bG):=d13.kn X G (fun _ _ _ _ _ _ us hl=>by obtain ⟨a0,a1,rfl⟩:=ik hl; rfl) fun _ F=>jV (k:=1) T  (g11.mono (by decide)) F
 have g14:Kn l.prog w K mg base 1 "_law_put" ["_law_lists", "_law_at", "_law_stand", "_law_thing"] (spF K [0,0,0,0] 0 dS):=d14.kn X G (fun _ _ _ _ _ _ us hl=>by obtain ⟨a0,a1,a2,a3,rfl⟩:=Cf hl; rfl) fun _ F=>nZ (k:=0) T   F
 have g15:Kn l.prog w K mg base 3 "_law_bent" ["_law_pen_here", "_law_machine_here", "_law_lists"] (spF K [1,0,0] 1 dq):=d15.kn X G (fun _ _ _ _ _ _ us hl=>by obtain ⟨a0,a1,a2,rfl⟩:=og hl; rfl) fun _ F=>m7 (k:=2) T  (g7.mono (by decide)) (g14.mono (by decide)) (g12.mono (by decide)) F
 exact (D1 (k:=4) T  (g5.mono (by decide)) (g8.mono (by decide)) (g10.mono (by decide)) (g7.mono (by decide)) (g11.mono (by decide)) (g15.mono (by decide)) (g4.mono (by decide)) (g13.mono (by decide)) FL).imp fun vs H Q E h=>Ch qE h
theorem walk {l:PySem.W.OpenLaw} {q:Program} {loose:List Str} {XP:(Str→Option Value)→Heap→Prop} {YP:World→Heap→Prop} {d:DefRec} {K:Params→PySem.W.Frag} (hn:l.most=some 63) (hdf:d.params.defaults=[]) (hq:PyProof.Rows.importsNone q=true)
  (hY:∀ (w:World) (h:Heap),YP w h→(K w.params).In h)
  (F:∀ (w:World) (mg:Str→Option Value) (fa:Addr) (h:Heap),(K w.params).In h→h.Ns mainGlobals mg→mg d.name=some (.ref fa) →
   ∃ fd:FuncData,(∀ (s:Shared) (u:Value),BindsTo s fd ⟨[u],[]⟩ [("_law_script",u)])∧∀ base:Heap,(K w.params).In base→base.Ns mainGlobals mg→FnOk l.prog w (K w.params) mg base CX0 5 fa fd ["_law_script"] (jT (K w.params))) :
  PySem.W.WalkO q loose XP YP l.row.toRowW d [] (fun f vs=>PySem.call f vs) :=
 L2.walk_of (n:=63) (k:=5) (x:="_law_script") (CX:=fun _=>CX0) (sp:=fun w=>jT (K w.params)) hn (by decide) hdf ⟨rfl,by decide,by decide,rfl⟩ hq hY F (fun _ _ a ns hl hO hS=>⟨a,ns,rfl,hS,hO,hl,fun _=>rfl⟩) fun _ _ _ _ _ z=>z
end W22
open PySem PySem.W PyProof.Rows
set_option maxRecDepth 100000 in
set_option maxHeartbeats 0 in
theorem PySem.Challenge.cw_wordrules_k22_what_is_a_table_holds : PySem.Challenge.rw_wordrules_k22_what_is_a_table.Holds := by
 w_on; o_law; k_head; (case hw=>w_witness2)
 k_fill
 refine W22.walk (l:=PySem.Challenge.rw_wordrules_k22_what_is_a_table) rfl rfl rfl (fun w h Y=>PySem.W.kIn_of Y) ?F
 case F =>
  intro w mg fa h KX G hmg
  refine' W22.all_mk KX G hmg (.mk' ?_ ?_ ?_ ?_) (.mk' ?_ ?_ ?_ ?_) (.mk' ?_ ?_ ?_ ?_) (.mk' ?_ ?_ ?_ ?_) (.mk' ?_ ?_ ?_ ?_) (.mk' ?_ ?_ ?_ ?_) (.mk' ?_ ?_ ?_ ?_) (.mk' ?_ ?_ ?_ ?_) (.mk' ?_ ?_ ?_ ?_) (.mk' ?_ ?_ ?_ ?_) (.mk' ?_ ?_ ?_ ?_) (.mk' ?_ ?_ ?_ ?_) (.mk' ?_ ?_ ?_ ?_) (.mk' ?_ ?_ ?_ ?_) (.mk' ?_ ?_ ?_ ?_) (.mk' ?_ ?_ ?_ ?_) (.mk' ?_ ?_ ?_ ?_) ?_ ?_ ?_ ?_ ?_ ?_ ?_ ?_ ?_ ?_ ?_ ?_ ?_
  all_goals (try k_is)
