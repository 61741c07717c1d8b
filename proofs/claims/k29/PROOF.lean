import PyProof.Rows.All
import Wide.All
import OpenK.AllK
import Wide.FinOn
import Lean
import PyProof.EqAt
import PyProof.EqKinds
import PyProof.TupleCall
import PyProof.NeKinds
import PyProof.ConsumeWalk
import PyProof.ZipIter
import PyProof.EnumMake
import PyProof.EnumFor
import PyProof.StrWalks
import PyProof.ListStr
import PyProof.SliceStr2
import PyProof.StrBlockI
import PyProof.Rows.StrWeight2
import PyProof.Rows.ZipGen
import PyProof.Rows.StrIndexOr
import PyProof.Draws
import PyProof.RaisesStr
import PyProof.Rows.StrCountLaw
import PyProof.SumWalk
import PyProof.ReprRoads
import PyProof.ReprLen
import PyProof.CallFns
import PyProof.SumAny
import PyProof.SumAnyB
import PySem.Challenge.RW_wordrules_k29_numbers_of_words
set_option Elab.async false
set_option linter.all false
set_option maxRecDepth 100000
namespace L2
open PySem PySem.Spec PyProof.Rows
abbrev Key:=Sum Int Str
def i5:Key→Value→Bool
 | .inl k,v=>Value.isInt k v
 | .inr x,v=>Value.isStrOf x v
def GE (w:World):Key→Int
 | .inl k=>hashInt k
 | .inr x=>hashStr w x
theorem bC:∀ {k:Key} {v:Value},i5 k v=true→(∃ i t,k=Sum.inl i∧v=Value.int i t)∨(∃ x t,k=Sum.inr x∧v=Value.str x t)
 | .inl i,v,h=>by
  obtain ⟨t,e⟩:=Value.isInt_shape (k:=i) (v:=v) h
  exact .inl ⟨i,t,rfl,e⟩
 | .inr x,v,h=>by
  obtain ⟨t,e⟩:=Value.isStrOf_shape (x:=x) (v:=v) h
  exact .inr ⟨x,t,rfl,e⟩
theorem re (i:Int) (t:Tok):i5 (.inl i) (.int i t)=true:=by simp [i5,Value.isInt]
theorem rd (x:Str) (t:Tok):i5 (.inr x) (.str x t)=true:=by simp [i5,Value.isStrOf]
theorem rb (a b:Int):decide ((Sum.inl a:Key)=Sum.inl b)=(a == b):=by
 by_cases e:a=b
 ·subst e; simp
 ·have h:¬ (Sum.inl a:Key)=Sum.inl b:=fun q=>e (Sum.inl.inj q)
  rw [decide_eq_false h]
  exact (beq_eq_false_iff_ne.mpr e).symm
theorem qX (a b:Str):decide ((Sum.inr a:Key)=Sum.inr b)=decide (a=b):=by
 by_cases e:a=b
 ·subst e; simp
 ·have h:¬ (Sum.inr a:Key)=Sum.inr b:=fun q=>e (Sum.inr.inj q)
  rw [decide_eq_false h,decide_eq_false e]
theorem qZ (a:Int) (b:Str):decide ((Sum.inl a:Key)=Sum.inr b)=false:=decide_eq_false (fun q=>nomatch q)
theorem qY (a:Str) (b:Int):decide ((Sum.inr a:Key)=Sum.inl b)=false:=decide_eq_false (fun q=>nomatch q)
def bn (prog:Program) (w:World):PySem.KeyKind prog w Key where
 is:=i5
 hash:=GE w
 inj:=fun v a b ha hb=>by
  rcases bC ha with ⟨i,t,rfl,rfl⟩ | ⟨x,t,rfl,rfl⟩
  ·rcases bC hb with ⟨j,u,rfl,e⟩ | ⟨y,u,rfl,e⟩
   ·injection e with e1 _; rw [e1]
   ·exact nomatch e
  ·rcases bC hb with ⟨j,u,rfl,e⟩ | ⟨y,u,rfl,e⟩
   ·exact nomatch e
   ·injection e with e1 _; rw [e1]
 byValue:=fun k v h=>by
  rcases bC h with ⟨i,t,rfl,rfl⟩ | ⟨x,t,rfl,rfl⟩ <;> rfl
 pyHash:=fun hv h=>by
  rcases bC hv with ⟨i,t,rfl,rfl⟩ | ⟨x,t,rfl,rfl⟩
  ·exact wpAny_pyHash_int h
  ·exact wpAny_pyHash_str h
 eqBool:=fun hu hv h=>by
  rcases bC hu with ⟨i,t,rfl,rfl⟩ | ⟨x,t,rfl,rfl⟩
  ·rcases bC hv with ⟨j,u,rfl,rfl⟩ | ⟨y,u,rfl,rfl⟩
   ·rw [rb] at h; exact wpAny_eqBool_int h
   ·rw [qZ] at h; exact SeqAt.EqAt.int_str i t y u _ _ _ _ h
  ·rcases bC hv with ⟨j,u,rfl,rfl⟩ | ⟨y,u,rfl,rfl⟩
   ·rw [qY] at h; exact SeqAt.EqAt.str_int x t j u _ _ _ _ h
   ·rw [qX] at h; exact wpAny_eqBool_str h
 «strs»:=fun k x t v h=>by
  rcases bC h with ⟨i,u,rfl,e⟩ | ⟨y,u,rfl,e⟩
  ·exact nomatch e
  ·injection e with e1 _
   subst e1
   cases v <;> rfl
theorem nY (prog:Program) (w:World) (i:Int) (t:Tok):(bn prog w).is (.inl i) (.int i t)=true:=re i t
theorem nX (prog:Program) (w:World) (x:Str) (t:Tok):(bn prog w).is (.inr x) (.str x t)=true:=rd x t
end L2
namespace L2
open PySem PySem.Spec PyProof.Rows
inductive V where
 | non | bl (b:Bool) | int (i:Int) | str (x:Str) | byt (b:Array UInt8) | flt (b:UInt64) | ref (a:Addr) | ty (n:String)
 deriving DecidableEq
def RelV:V→Value→Prop
 | .non,u=>u=Value.none
 | .bl b,u=>u=Value.bool b
 | .int i,u=>∃ t,u=Value.int i t
 | .str x,u=>∃ t,u=Value.str x t
 | .byt b,u=>∃ t,u=Value.bytes b t
 | .flt b,u=>∃ t,u=Value.float b t
 | .ref a,u=>u=Value.ref a
 | .ty n,u=>u=Value.type n
abbrev Vals:List V→List Value→Prop:=Paired RelV
theorem Vals.length {xs:List V} {us:List Value} (r:Vals xs us):xs.length=us.length:=Paired.length r
theorem Vals.get:∀ {xs:List V} {us:List Value} {i:Nat} {x:V},Vals xs us→xs[i]?=some x→∃ u,us[i]?=some u∧RelV x u
 | _,_,_,_,.nil,e=>by simp at e
 | _,_,0,_,.cons r _,e=>by simp at e; subst e; exact ⟨_,rfl,r⟩
 | _,_,i+1,x,.cons _ t,e=>by
  obtain ⟨u,h1,h2⟩:=Vals.get (i:=i) (x:=x) t (by simpa using e)
  exact ⟨u,by simpa using h1,h2⟩
theorem Vals.set {x:V} {u:Value} (r:RelV x u):∀ {xs:List V} {us:List Value} (i:Nat),Vals xs us→Vals (xs.set i x) (us.set i u)
 | _,_,_,.nil=>.nil
 | _,_,0,.cons _ t=>.cons r t
 | _,_,i+1,.cons q t=>.cons q (Vals.set r i t)
theorem Vals.append:∀ {xs ys:List V} {us ws:List Value},Vals xs us→Vals ys ws→Vals (xs++ys) (us++ws)
 | _,_,_,_,.nil,s=>s
 | _,_,_,_,.cons r t,s=>.cons r (Vals.append t s)
theorem Vals.take:∀ {xs:List V} {us:List Value} (n:Nat),Vals xs us→Vals (xs.take n) (us.take n)
 | _,_,0,_=>.nil
 | _,_,_+1,.nil=>.nil
 | _,_,n+1,.cons r t=>.cons r (Vals.take n t)
theorem Vals.drop:∀ {xs:List V} {us:List Value} (n:Nat),Vals xs us→Vals (xs.drop n) (us.drop n)
 | _,_,0,r=>r
 | _,_,_+1,.nil=>.nil
 | _,_,n+1,.cons _ t=>Vals.drop n t
def RelO:Option V→Option Value→Prop
 | some v,some u=>RelV v u
 | none,none=>True
 | _,_=>False
def KV {κ:Type}:List (κ × V)→List (κ × Value)→Prop:=Paired fun (p:κ × V) (q:κ × Value)=>p.1=q.1∧RelV p.2 q.2
def kV:Key→V
 | .inl i=>.int i
 | .inr x=>.str x
inductive HO where
 | lst (xs:List V)
 | tup (xs:List V)
 | dK (kvs:List (Key × V)) | dT (kvs:List (List Key × V))
 | set (S:Int→Bool) (n:Nat)
 | ins (C dx:Addr) (fs:List (Str × V))
 | own (x:Addr)
 | xd (fs:List (Str × V))
 | met (f x:Addr)
 | rng (lo hi:Int)
 | frz (o:Obj) (u:HO)
 | tbl (ps:Array Value)
 | ext (φ:Heap→Prop)
abbrev Hp:=Addr→Option HO
def upd (H:Hp) (a:Addr) (o:HO):Hp:=fun b=>if b=a then some o else H b
theorem aJ {H:Hp} {a:Addr} {o:HO}:upd H a o a=some o:=by unfold upd; rw [if_pos rfl]
theorem aF {H:Hp} {a b:Addr} {o:HO} (h:b≠a):upd H a o b=H b:=by unfold upd; rw [if_neg h]
theorem FV {H:Hp} {a b:Addr} {o u:HO} (h:H a=some o) (h':H b=some u) (d:o≠u):a≠b:=by
 intro e; subst e; rw [h] at h'; exact d (Option.some.inj h')
theorem bB {H:Hp} {a b:Addr} {o:HO} (h:H a=some o) (h':H b=none):a≠b:=by
 intro e; subst e; rw [h] at h'; cases h'
def IsTupN (h:Heap) (a:Addr) (its:Array Value):Prop:=∃ o,h.get? a=some o∧o.cls=.type "tuple"∧∃ n,o.data=.seq its n∧o.dict=none
theorem IsTupN.tup {h:Heap} {a:Addr} {its:Array Value} (x:IsTupN h a its):IsTup h a its:=by
 obtain ⟨o,h1,h2,n,h3,_⟩:=x
 exact ⟨o,h1,h2,n,h3⟩
theorem IsTupN.lt {h:Heap} {a:Addr} {its:Array Value} (x:IsTupN h a its):a < h.objs.size:=Heap.lt_size x.choose_spec.1
theorem IsTupN.new (h:Heap) (its:Array Value):IsTupN (h.push { cls:=.type "tuple",data:=.seq its }) h.objs.size its:=⟨_,Heap.get?_push_size _ rfl,rfl,_,rfl,rfl⟩
section
variable (P:Program) (w:World)
def ObjOk (H:Hp) (h:Heap) (a:Addr):HO→Prop
 | .lst xs=>xs.length≤sizeLine∧∃ (its:List Value) (n:Nat),Vals xs its∧h.get? a=some { cls:=.type "list",data:=.seq its.toArray n }
 | .tup xs=>xs.length≤sizeLine∧∃ its:List Value,Vals xs its∧IsTupN h a its.toArray
 | .dK kvs=>kvs.length≤sizeLine∧(a == sysModules)=false∧∃ vs,KV kvs vs∧h.DictOf (bn P w) a vs
 | .dT kvs=>kvs.length≤sizeLine∧(a == sysModules)=false∧∃ xs:List (List Key × Addr × Value),
   Paired (fun (p:List Key × V) (q:List Key × Addr × Value)=>p.1=q.1∧H q.2.1=some (.tup (p.1.map kV))∧RelV p.2 q.2.2) kvs xs ∧
   ∃ o es ep,h.get? a=some o∧o.ExactDict∧o.data=.dict es ep∧es.toList=xs.map (entryOfKey (tupleKind (bn P w)))∧(xs.map (·.1)).Nodup
 | .set S n=>h.SetOf (intKind P w) a S n
 | .ins C dx fs=>H dx=some (.own a)∧fs.length≤1000∧dx≠a∧h.get? a=some (PySem.W.instObj C dx) ∧
   ∃ mA,h.Ns1 dx mA∧(∀ f,RelO (fs.lookup f) (mA f))∧PySem.Within mA (fs.map (·.1))
 | .own _=>∃ o,h.get? a=some o
 | .xd fs=>∃ mA,h.Ns1 a mA∧∀ f,RelO (fs.lookup f) (mA f)
 | .rng lo hi=>∃ t u v,h.get? a=some { cls:=.type "range",data:=.fields #[.int lo t,.int hi u,.int 1 v] }
 | .frz o u=>h.get? a=some o∧ObjOk H h a u
 | .tbl ps=>h.get? a=some { cls:=.none,data:=.fields ps }
 | .met f x=>h.get? a=some (PySem.W.methodObj (.ref f) (.ref x))
 | .ext φ=>φ h∧(∃ o,h.get? a=some o)∧∀ h1 h2:Heap,φ h1→(∀ o,h1.get? a=some o→h2.get? a=some o)→φ h2
def HOk (H:Hp) (h:Heap):Prop:=∀ a o,H a=some o→ObjOk P w H h a o
end
section
variable {P:Program} {w:World} {H H':Hp} {h h':Heap} {a:Addr} {o:HO}
theorem ObjOk.lt (x:ObjOk P w H h a o):a < h.objs.size:=by
 cases o with
 | lst xs=>obtain ⟨_,_,_,_,e⟩:=x; exact Heap.lt_size e
 | tup xs=>obtain ⟨_,_,_,p⟩:=x; exact p.lt
 | dK kvs=>obtain ⟨_,_,_,_,o,_,_,e,_⟩:=x; exact Heap.lt_size e
 | dT kvs=>obtain ⟨_,_,_,_,o,_,_,e,_⟩:=x; exact Heap.lt_size e
 | set S n=>obtain ⟨o,_,_,_,e,_⟩:=x; exact Heap.lt_size e
 | ins C dx fs=>obtain ⟨_,_,_,e,_⟩:=x; exact Heap.lt_size e
 | own y=>obtain ⟨_,e⟩:=x; exact Heap.lt_size e
 | xd fs=>obtain ⟨_,⟨_,_,_,e,_⟩,_⟩:=x; exact Heap.lt_size e
 | rng lo hi=>obtain ⟨_,_,_,e⟩:=x; exact Heap.lt_size e
 | frz ob u=>obtain ⟨e,_⟩:=x; exact Heap.lt_size e
 | tbl ps=>exact Heap.lt_size (show h.get? a=some _ from x)
 | met f y=>exact Heap.lt_size (show h.get? a=some _ from x)
 | ext φ=>obtain ⟨_,⟨_,e⟩,_⟩:=x; exact Heap.lt_size e
theorem Paired.mapP {α β:Type} {F G:α→β→Prop}:∀ {l₁:List α} {l₂:List β},Paired F l₁ l₂→(∀ a b,F a b→G a b)→Paired G l₁ l₂
 | _,_,.nil,_=>.nil
 | _,_,.cons r t,f=>.cons (f _ _ r) (Paired.mapP t f)
theorem ObjOk.stay (x:ObjOk P w H h a o) (k:∀ b u,(b=a∨H b=some (.own a))→h.get? b=some u→h'.get? b=some u)
  (ho:∀ b,H b=some (.own a)→H' b=some (.own a)) (ht:∀ b xs,H b=some (.tup xs)→H' b=some (.tup xs)):ObjOk P w H' h' a o:=by
 induction o with
 | lst xs=>obtain ⟨z,its,n,r,e⟩:=x; exact ⟨z,its,n,r,k _ _ (.inl rfl) e⟩
 | tup xs=>obtain ⟨z,its,r,ob,e,c⟩:=x; exact ⟨z,its,r,ob,k _ _ (.inl rfl) e,c⟩
 | dK kvs=>obtain ⟨z,y,vs,r,ob,es,ep,e,c⟩:=x; exact ⟨z,y,vs,r,ob,es,ep,k _ _ (.inl rfl) e,c⟩
 | dT kvs =>
  obtain ⟨z,y,xs,r,ob,es,ep,e,c⟩:=x
  exact ⟨z,y,xs,Paired.mapP r fun p q z=>⟨z.1,ht _ _ z.2.1,z.2.2⟩,ob,es,ep,k _ _ (.inl rfl) e,c⟩
 | set S n=>obtain ⟨ob,es,ep,t,e,c⟩:=x; exact ⟨ob,es,ep,t,k _ _ (.inl rfl) e,c⟩
 | ins C dx fs =>
  obtain ⟨d,z,ne,e,mA,⟨od,es,ep,e2,c⟩,r⟩:=x
  exact ⟨ho _ d,z,ne,k _ _ (.inl rfl) e,mA,⟨od,es,ep,k _ _ (.inr d) e2,c⟩,r⟩
 | own y=>obtain ⟨ob,e⟩:=x; exact ⟨ob,k _ _ (.inl rfl) e⟩
 | xd fs=>obtain ⟨mA,⟨od,es,ep,e,c⟩,r⟩:=x; exact ⟨mA,⟨od,es,ep,k _ _ (.inl rfl) e,c⟩,r⟩
 | rng lo hi=>obtain ⟨t,u,v,e⟩:=x; exact ⟨t,u,v,k _ _ (.inl rfl) e⟩
 | frz ob u ih=>obtain ⟨e,q⟩:=x; exact ⟨k _ _ (.inl rfl) e,ih q⟩
 | tbl ps =>
  have e:h.get? a=some { cls:=.none,data:=.fields ps }:=x
  show h'.get? a=some { cls:=.none,data:=.fields ps }
  exact k a _ (.inl rfl) e
 | met f y =>
  have e:h.get? a=some (PySem.W.methodObj (.ref f) (.ref y)):=x
  show h'.get? a=some (PySem.W.methodObj (.ref f) (.ref y))
  exact k a _ (.inl rfl) e
 | ext φ=>obtain ⟨p,⟨o,e⟩,st⟩:=x; exact ⟨st _ _ p fun o q=>k _ _ (.inl rfl) q,⟨o,k _ _ (.inl rfl) e⟩,st⟩
theorem HOk.lt (x:HOk P w H h) (e:H a=some o):a < h.objs.size:=(x a o e).lt
theorem HOk.fresh (x:HOk P w H h) (e:h.objs.size≤a):H a=none:=by
 cases q:H a with
 | none=>rfl
 | some u=>exact absurd (Nat.lt_of_lt_of_le (x.lt q) e) (Nat.lt_irrefl _)
theorem HOk.kept (x:HOk P w H h) (k:∀ b u,h.get? b=some u→h'.get? b=some u):HOk P w H h':=fun a o e =>
 (x a o e).stay (fun b u _ q=>k b u q) (fun _ q=>q) fun _ _ q=>q
theorem HOk.laid (x:HOk P w H h) (k:∀ b u,h.get? b=some u→h'.get? b=some u) (hp:h.objs.size≤a) (new:ObjOk P w (upd H a o) h' a o):HOk P w (upd H a o) h':=fun b u e=>by
 have hn:=x.fresh hp
 by_cases hb:b=a
 ·subst hb; rw [aJ] at e; cases e; exact new
 ·rw [aF hb] at e
  exact (x b u e).stay (fun c v _ q=>k c v q) (fun c q=>by rw [aF (bB q hn)]; exact q) fun c xs q=>by rw [aF (bB q hn)]; exact q
end
def Rd (H:Hp) (a:Addr) (u:HO):Prop:=H a=some u∨∃ o,H a=some (.frz o u)
theorem Rd.ok {P:Program} {w:World} {H:Hp} {h:Heap} {a:Addr} {u:HO} (r:Rd H a u) (x:HOk P w H h):ObjOk P w H h a u:=by
 rcases r with r | ⟨o,r⟩
 ·exact x a u r
 ·obtain ⟨_,q⟩:=x a _ r
  exact q
def Mut:Option HO→Prop
 | some (.lst _)=>True
 | some (.dK _)=>True
 | some (.dT _)=>True
 | some (.set _ _)=>True
 | some (.ins _ _ _)=>True
 | some (.ext _)=>True
 | _=>False
section
variable {P:Program} {w:World} {H:Hp} {h h':Heap} {x e:Addr} {o':HO}
theorem HOk.write (ok:HOk P w H h) (mu:Mut (H x)) (he:e=x∨H e=some (.own x)) (k:∀ b u,b≠e→h.get? b=some u→h'.get? b=some u) (heo:∃ u,h'.get? e=some u)
  (new:ObjOk P w (upd H x o') h' x o'):HOk P w (upd H x o') h':=fun b u q=>by
 have nown:∀ c y,H c=some (.own y)→c≠x:=fun c y r z=>by subst z; rw [r] at mu; exact mu
 have ntup:∀ c xs,H c=some (.tup xs)→c≠x:=fun c xs r z=>by subst z; rw [r] at mu; exact mu
 by_cases hb:b=x
 ·subst hb; rw [aJ] at q; cases q; exact new
 ·rw [aF hb] at q
  by_cases hbe:b=e
  ·have q':H b=some (.own x):=by
    rcases he with z | z
    ·exact absurd (hbe.trans z) hb
    ·rw [hbe]; exact z
   rw [q] at q'; cases q'
   obtain ⟨v,hv⟩:=heo
   exact ⟨v,by rw [hbe]; exact hv⟩
  ·refine (ok b u q).stay (fun c v hc r=>k c v ?_ r) (fun c r=>by rw [aF (nown c b r)]; exact r) fun c xs r=>by rw [aF (ntup c xs r)]; exact r
   rcases hc with rfl | hc
   ·exact hbe
   ·rintro rfl
    rcases he with z | z
    ·exact nown c b hc z
    ·rw [hc] at z; cases z; exact hb rfl
end
structure Un (fs ex:List Addr) (H H':Hp) (h h':Heap):Prop where
 keep:∀ b o,h.get? b=some o→H b=none→b ∉ fs→b ∉ ex→h'.get? b=some o
 slot:∀ b o,h.get? b=some o→H b=none→b∈fs→b ∉ ex→∃ sl,h'.get? b=some { o with slots:=sl }
 free:∀ b o,h.get? b=some o→H b=none→b ∉ ex→H' b=none
 there:∀ b o,h.get? b=some o→b ∉ ex→∃ o',h'.get? b=some o'
 tups:∀ b xs,H b=some (.tup xs)→H' b=some (.tup xs)
 frzs:∀ b o u,H b=some (.frz o u)→H' b=some (.frz o u)
 tbls:∀ b ps,H b=some (.tbl ps)→∃ more,H' b=some (.tbl (ps++more))
section
variable {fs fs' ex ex':List Addr} {H H1 H2:Hp} {h h1 h2 h':Heap} {a x e:Addr} {o:HO}
theorem Un.any (u:Un fs ex H H1 h h1) {b:Addr} {ob:Obj} (q:h.get? b=some ob) (n:H b=none) (hx:b ∉ ex):∃ sl,h1.get? b=some { ob with slots:=sl }:=by
 by_cases hb:b∈fs
 ·exact u.slot b ob q n hb hx
 ·exact ⟨ob.slots,u.keep b ob q n hb hx⟩
theorem Un.trans (a:Un fs ex H H1 h h1) (b:Un fs ex H1 H2 h1 h2):Un fs ex H H2 h h2 where
 keep:=fun c ob q n hc hx=>b.keep c ob (a.keep c ob q n hc hx) (a.free c ob q n hx) hc hx
 slot:=fun c ob q n hc hx=>by
  obtain ⟨sl,e1⟩:=a.slot c ob q n hc hx
  obtain ⟨sl',e2⟩:=b.slot c _ e1 (a.free c ob q n hx) hc hx
  exact ⟨sl',e2⟩
 free:=fun c ob q n hx=>by
  obtain ⟨o',e1⟩:=a.there c ob q hx
  exact b.free c o' e1 (a.free c ob q n hx) hx
 there:=fun c ob q hx=>by
  obtain ⟨o',e1⟩:=a.there c ob q hx
  exact b.there c o' e1 hx
 tups:=fun c xs q=>b.tups c xs (a.tups c xs q)
 frzs:=fun c ob xs q=>b.frzs c ob xs (a.frzs c ob xs q)
 tbls:=fun c ps q=>by
  obtain ⟨m1,e1⟩:=a.tbls c ps q
  obtain ⟨m2,e2⟩:=b.tbls c _ e1
  exact ⟨m1++m2,by rw [e2,Array.append_assoc]⟩
theorem Un.kept (k:∀ b u,h.get? b=some u→h'.get? b=some u):Un fs ex H H h h' :=
 ⟨fun b ob q _ _ _=>k b ob q,fun b ob q _ _ _=>⟨ob.slots,k b ob q⟩,fun _ _ _ n _=>n,fun b ob q _=>⟨ob,k b ob q⟩,fun _ _ q=>q,fun _ _ _ q=>q,fun _ ps q=>⟨#[],by rw [q]; simp⟩⟩
theorem Un.refl:Un fs ex H H h h:=Un.kept fun _ _ q=>q
theorem Un.laid (k:∀ b u,h.get? b=some u→h'.get? b=some u) (hp:h.objs.size≤a) (hn:H a=none):Un fs ex H (upd H a o) h h' where
 keep:=fun b u q _ _ _=>k b u q
 slot:=fun b u q _ _ _=>⟨u.slots,k b u q⟩
 free:=fun b u q n _=>by rw [aF (Nat.ne_of_lt (Nat.lt_of_lt_of_le (Heap.lt_size q) hp))]; exact n
 there:=fun b u q _=>⟨u,k b u q⟩
 tups:=fun b xs q=>by rw [aF (bB q hn)]; exact q
 frzs:=fun b u xs q=>by rw [aF (bB q hn)]; exact q
 tbls:=fun b ps q=>⟨#[],by rw [aF (bB q hn),q]; simp⟩
theorem Un.write (mu:Mut (H x)) (he:e=x∨H e=some (.own x)) (k:∀ b u,b≠e→h.get? b=some u→h'.get? b=some u) (heo:∃ u,h'.get? e=some u):Un fs ex H (upd H x o) h h':=by
 have hx:∀ b,H b=none→b≠x:=fun b n z=>by subst z; rw [n] at mu; exact mu
 have hb:∀ b,H b=none→b≠e:=fun b n z=>by
  subst z
  rcases he with r | r
  ·exact hx b n r
  ·rw [n] at r; cases r
 have hm:∀ b u,H b=some u→¬ Mut (some u)→b≠x:=fun b u q nm z=>by subst z; rw [q] at mu; exact nm mu
 refine ⟨fun b u q n _ _=>k b u (hb b n) q,fun b u q n _ _=>⟨u.slots,k b u (hb b n) q⟩,fun b u q n _=>by rw [aF (hx b n)]; exact n,fun b u q _=>?_,
  fun b xs q=>by rw [aF (hm b _ q fun z=>z)]; exact q,fun b u xs q=>by rw [aF (hm b _ q fun z=>z)]; exact q,fun b ps q=>⟨#[],by rw [aF (hm b _ q fun z=>z),q]; simp⟩⟩
 by_cases hbe:b=e
 ·subst hbe; exact heo
 ·exact ⟨u,k b u hbe q⟩
end
def trk (h:Heap) (H:Hp):List Addr:=(List.range h.objs.size).filter fun a=>(H a).isSome
def fP (h:Heap) (H:Hp):Heap:=PySem.W.hideAll h (trk h H)
theorem rm (h:Heap) (H:Hp):(fP h H).objs.size=h.objs.size:=PySem.W.hideAll_size _ _
theorem ni {h:Heap} {H:Hp} {b:Addr} {o:Obj} (e:h.get? b=some o) (n:H b=none):(fP h H).get? b=some o :=
 PySem.W.hideAll_get _ e fun hm=>by
  have q:(H b).isSome=true:=(List.mem_filter.mp hm).2
  rw [n] at q; simp at q
theorem oB {h:Heap} {H:Hp} {b:Addr} {o:Obj} (e:(fP h H).get? b=some o):h.get? b=some o∧H b=none:=by
 have e':h.get? b=some o:=PySem.W.of_hideAll (trk h H) e
 refine ⟨e',?_⟩
 cases q:H b with
 | none=>rfl
 | some x =>
  have hm:b∈trk h H:=List.mem_filter.mpr ⟨List.mem_range.mpr (Heap.lt_size e'),by simp [q]⟩
  have z:(fP h H).get? b=none:=PySem.W.hideAll_none (trk h H) hm
  rw [z] at e; cases e
def BF (g h:Heap) (L:Addr):List (Addr × Obj):=(List.range h.objs.size).filterMap fun a=>if a=L∨(g.get? a).isSome=true then none else (h.get? a).map fun o=>(a,o)
def rest (g h:Heap) (L d:Addr):List (Addr × Obj):=(BF g h L).filter fun p=>decide (p.1≠d)
end L2
namespace L2
open PySem PySem.Spec PyProof.Rows
structure Mod (K:PySem.W.Frag) (mg:Str→Option Value) (base:Heap):Prop where
 kin:K.In base
 glob:base.Ns mainGlobals mg
 blt:∃ mb,base.Ns builtinsNs mb∧∀ x:Str,x≠"__name__"→mb x=bootBuiltins x
 nolimit:base.NoLimit
 mods:∃ mm,base.Ns sysModules mm
structure Cx where
 prog:Program
 w:World
 K:PySem.W.Frag
 mg:Str→Option Value
 base:Heap
 A:Around
 N:List Str
 s₀:Shared
 H₀:Hp
 env:Env
 outer:List Env
 stack:List Env
 ex:List Addr
 fn:Str→Bool
 calm:Bool
 pn:List (Addr × Obj)
 xe:Value→Shared→Prop
def frs (l:List Env):List Addr:=l.filterMap (·.frame)
abbrev Cx.fs (X:Cx):List Addr:=frs X.outer
def Vis (sc:Scope) (x:Str):Prop:=sc.names.lookup x=some .local∨sc.names.lookup x=some .cell∨sc.names.lookup x=some .free
def Loc (sc:Scope) (x:Str):Prop:=sc.names.lookup x=some .local∨sc.names.lookup x=some .cell
def GU (env:Env) (h:Heap) (m:Str→Option Value) (x:Str) (u:Value):Prop :=
 (env.kindOf x=some .local∧m x=some u)∨((env.kindOf x=some .cell∨env.kindOf x=some .free)∧∃ c,env.cells.lookup x=some c∧h.IsCell c (some u))
structure Cx.Ok (X:Cx):Prop where
 mod:Mod X.K X.mg X.base
 kind:X.env.scope.kind=.function
 glob:X.env.globals=mainGlobals
 blt:X.env.builtins=builtinsNs
 above:X.s₀.heap.objs.size≤X.env.locals
 inj:∀ x y c,X.env.cells.lookup x=some c→X.env.cells.lookup y=some c→x=y
 has:∀ x,(X.env.kindOf x=some .cell∨X.env.kindOf x=some .free)→∃ c,X.env.cells.lookup x=some c
 cab:∀ x c,X.fn x=true→X.env.cells.lookup x=some c→X.s₀.heap.objs.size≤c
 hd:X.calm=true→X.A.handled=none
 frames:X.A.frames=some X.stack
 stk:X.stack=X.outer∨(X.stack=X.env :: X.outer∧X.env.frame=some X.env.locals)
 exf:∀ b∈X.ex,b≠X.env.locals∧∀ x c,X.env.cells.lookup x=some c→c≠b
 bs:∀ b o,X.base.get? b=some o→X.s₀.heap.get? b=some o∧X.H₀ b=none
 bsz:X.base.objs.size≤X.s₀.heap.objs.size
 noex:∀ b o,X.base.get? b=some o→b ∉ X.ex
 exfs:∀ b∈X.ex,b ∉ X.fs
 funs:X.s₀.heap.FunFrames X.base X.outer
 frf:∀ b∈X.fs,X.H₀ b=none
structure Inv (X:Cx) (pins:List (Addr × Obj)) (σ:List (Option V)) (H:Hp) (s:Shared):Prop where
 ok:X.Ok
 os:s.os=X.s₀.os
 bare:AllBare s.gens
 base:Un X.fs X.ex X.H₀ H X.s₀.heap s.heap
 loc:∃ m,s.heap.Ns X.env.locals m∧∀ (i:Nat) (x:Str) (v:V),X.N[i]?=some x→σ[i]?=some (some v)→Vis X.env.scope x→∃ u,RelV v u∧GU X.env s.heap m x u
 cell:∀ x c,X.env.cells.lookup x=some c→∃ v,s.heap.IsCell c v
 free:H X.env.locals=none
 freeC:∀ x c,X.env.cells.lookup x=some c→H c=none
 pin:∀ p∈X.pn++pins,s.heap.get? p.1=some p.2∧H p.1=none∧p.1≠X.env.locals∧p.1 ∉ X.fs∧∀ v,p.2.data≠.cell v
 hok:HOk X.prog X.w H s.heap
 len:σ.length=X.N.length
section
variable {X:Cx} {pins:List (Addr × Obj)} {σ:List (Option V)} {H H':Hp} {s:Shared} {h':Heap}
theorem Cx.Ok.nofr (ok:X.Ok) {b:Addr} {o:Obj} (e:X.base.get? b=some o):b ∉ X.fs:=fun hb=>by
 have:=(ok.funs.mem hb).1
 rw [e] at this; cases this
theorem Inv.bs (I:Inv X pins σ H s):∀ b o,X.base.get? b=some o→s.heap.get? b=some o∧H b=none:=fun b o e =>
 ⟨I.base.keep b o (I.ok.bs b o e).1 (I.ok.bs b o e).2 (I.ok.nofr e) (I.ok.noex b o e),I.base.free b o (I.ok.bs b o e).1 (I.ok.bs b o e).2 (I.ok.noex b o e)⟩
theorem Inv.bk (I:Inv X pins σ H s):∀ b o,X.base.get? b=some o→s.heap.get? b=some o:=fun b o e=>(I.bs b o e).1
theorem Inv.mod (I:Inv X pins σ H s):Mod X.K X.mg X.base:=I.ok.mod
theorem Inv.kIn (I:Inv X pins σ H s):X.K.In s.heap:=I.ok.mod.kin.keeps I.bk
theorem Inv.lt (I:Inv X pins σ H s):X.env.locals < s.heap.objs.size:=let ⟨_,hn,_⟩:=I.loc; hn.lt
theorem Inv.sz (I:Inv X pins σ H s):X.s₀.heap.objs.size≤s.heap.objs.size:=Nat.le_trans I.ok.above (Nat.le_of_lt I.lt)
theorem Inv.nofs (I:Inv X pins σ H s) {a:Addr} (h:s.heap.objs.size≤a):a ∉ X.fs:=fun hb=>by
 obtain ⟨_,o,ho,_⟩:=I.ok.funs.mem hb
 exact absurd (Nat.lt_of_lt_of_le (Heap.lt_size ho) (Nat.le_trans I.sz h)) (Nat.lt_irrefl _)
theorem Inv.cne (I:Inv X pins σ H s):∀ x c,X.env.cells.lookup x=some c→c≠X.env.locals:=fun x c e z=>by
 obtain ⟨v,o,ho,hd⟩:=I.cell x c e
 obtain ⟨m,⟨o',es,ep,ho',hd',_⟩,_⟩:=I.loc
 rw [z,ho'] at ho; cases ho; rw [hd'] at hd; cases hd
theorem Inv.funs (I:Inv X pins σ H s):s.heap.FunFrames X.base X.outer:=by
 have all:∀ (l:List Env),(∀ b∈frs l,b∈X.fs)→X.s₀.heap.FunFrames X.base l→s.heap.FunFrames X.base l:=by
  intro l
  induction l with
  | nil=>intro _ _; trivial
  | cons env r ih =>
   intro hs hl
   obtain ⟨hk,⟨L,o,hf,hn,ho,hd⟩,hr⟩:=hl
   have hL:L∈X.fs:=hs L (by unfold frs; rw [List.filterMap_cons,hf]; exact List.mem_cons_self)
   obtain ⟨sl,e⟩:=I.base.slot L o ho (I.ok.frf L hL) hL fun z=>I.ok.exfs L z hL
   exact ⟨hk,⟨L,_,hf,hn,e,hd⟩,ih (fun b hb=>hs b (by unfold frs; rw [List.filterMap_cons,hf]; exact List.mem_cons_of_mem _ hb)) hr⟩
 exact all X.outer (fun _ hb=>hb) I.ok.funs
theorem Inv.stack (I:Inv X pins σ H s):s.heap.FunFrames X.base X.stack:=by
 rcases I.ok.stk with e | ⟨e,hf⟩
 ·rw [e]; exact I.funs
 ·rw [e]
  obtain ⟨m,hn,_⟩:=I.loc
  refine .cons (by rw [I.ok.kind]; decide) hf hn ?_ I.funs
  exact Heap.get?_none_of_le (Nat.le_trans I.ok.bsz I.ok.above)
theorem Inv.stkSub (I:Inv X pins σ H s):∀ b∈frs X.stack,b∈X.env.locals :: X.fs:=fun b hb=>by
 rcases I.ok.stk with e | ⟨e,hf⟩
 ·rw [e] at hb; exact List.mem_cons_of_mem _ hb
 ·rw [e] at hb
  unfold frs at hb
  rw [List.filterMap_cons,hf] at hb
  exact hb
theorem Inv.stkFree (I:Inv X pins σ H s):∀ b∈frs X.stack,H b=none:=fun b hb=>by
 rcases List.mem_cons.mp (I.stkSub b hb) with e | hb
 ·rw [e]; exact I.free
 ·obtain ⟨_,o,ho,_⟩:=I.ok.funs.mem hb
  exact I.base.free b o ho (I.ok.frf b hb) fun z=>I.ok.exfs b z hb
theorem Inv.step {g':Array GenState} {t':Nat} {d':Drawn} {ch:List Addr} (I:Inv X pins σ H s)
  (hch:∀ b∈ch,(b∈X.ex∨X.s₀.heap.objs.size≤b)∧b≠X.env.locals∧(∀ x c,X.env.cells.lookup x=some c→c≠b)∧∀ p∈X.pn++pins,p.1≠b)
  (keep:∀ b o,b≠X.env.locals→b ∉ X.fs→b ∉ ch→s.heap.get? b=some o→H b=none→h'.get? b=some o)
  (slot:∀ b o,b≠X.env.locals→b∈X.fs→b ∉ ch→s.heap.get? b=some o→H b=none→∃ sl,h'.get? b=some { o with slots:=sl }) (free:∀ b o,b ∉ ch→s.heap.get? b=some o→H b=none→H' b=none)
  (there:∀ b o,b ∉ ch→s.heap.get? b=some o→∃ o',h'.get? b=some o')
  (tups:∀ b xs,H b=some (.tup xs)→H' b=some (.tup xs)) (frzs:∀ b o u,H b=some (.frz o u)→H' b=some (.frz o u)) (tbls:∀ b ps,H b=some (.tbl ps)→∃ more,H' b=some (.tbl (ps++more)))
  (ns:∀ m,s.heap.Ns X.env.locals m→h'.Ns X.env.locals m) (hok:HOk X.prog X.w H' h') (hg:AllBare g') :
  Inv X pins σ H' { s with heap:=h',gens:=g',drawn:=d',toks:=t' }:=by
 have neL:∀ b o,X.s₀.heap.get? b=some o→b≠X.env.locals:=fun b o e=>Nat.ne_of_lt (Nat.lt_of_lt_of_le (Heap.lt_size e) I.ok.above)
 have neC:∀ b o,X.s₀.heap.get? b=some o→b ∉ X.ex→b ∉ ch:=fun b o e hx hb=>by
  rcases (hch b hb).1 with z | z
  ·exact hx z
  ·exact absurd (Nat.lt_of_lt_of_le (Heap.lt_size e) z) (Nat.lt_irrefl _)
 have cellK:∀ x c,X.env.cells.lookup x=some c→∀ v,s.heap.IsCell c v→h'.IsCell c v:=fun x c e v ⟨o,ho,hd⟩=>by
  have nch:c ∉ ch:=fun z=>(hch c z).2.2.1 x c e rfl
  by_cases hc:c∈X.fs
  ·obtain ⟨sl,q⟩:=slot c o (I.cne x c e) hc nch ho (I.freeC x c e)
   exact ⟨_,q,hd⟩
  ·exact ⟨o,keep c o (I.cne x c e) hc nch ho (I.freeC x c e),hd⟩
 refine ⟨I.ok,I.os,hg,⟨fun b o e n hb hx=>?_,fun b o e n hb hx=>?_,fun b o e n hx=>?_,fun b o e hx=>?_,fun b xs e=>tups b xs (I.base.tups b xs e),fun b o xs e=>frzs b o xs (I.base.frzs b o xs e),fun b ps e=>?_⟩,?_,fun x c e=>?_,?_,fun x c e=>?_,fun p hp=>?_,hok,I.len⟩
 ·exact keep b o (neL b o e) hb (neC b o e hx) (I.base.keep b o e n hb hx) (I.base.free b o e n hx)
 ·obtain ⟨sl,e1⟩:=I.base.slot b o e n hb hx
  obtain ⟨sl',e2⟩:=slot b _ (neL b o e) hb (neC b o e hx) e1 (I.base.free b o e n hx)
  exact ⟨sl',e2⟩
 ·obtain ⟨o',e1⟩:=I.base.there b o e hx
  exact free b o' (neC b o e hx) e1 (I.base.free b o e n hx)
 ·obtain ⟨o',e1⟩:=I.base.there b o e hx
  exact there b o' (neC b o e hx) e1
 ·obtain ⟨m1,e1⟩:=I.base.tbls b ps e
  obtain ⟨m2,e2⟩:=tbls b _ e1
  exact ⟨m1++m2,by rw [e2,Array.append_assoc]⟩
 ·obtain ⟨m,hn,hl⟩:=I.loc
  refine ⟨m,ns m hn,fun i x v e1 e2 e3=>?_⟩
  obtain ⟨u,r,l⟩:=hl i x v e1 e2 e3
  refine ⟨u,r,?_⟩
  rcases l with l | ⟨k,c,e,z⟩
  ·exact .inl l
  ·exact .inr ⟨k,c,e,cellK x c e _ z⟩
 ·obtain ⟨v,z⟩:=I.cell x c e
  exact ⟨v,cellK x c e v z⟩
 ·obtain ⟨m,⟨o,_,_,ho,_⟩,_⟩:=I.loc
  exact free _ o (fun z=>(hch _ z).2.1 rfl) ho I.free
 ·obtain ⟨v,o,ho,hd⟩:=I.cell x c e
  exact free c o (fun z=>(hch c z).2.2.1 x c e rfl) ho (I.freeC x c e)
 ·obtain ⟨e,n,ne,nf,d⟩:=I.pin p hp
  have nch:p.1 ∉ ch:=fun z=>(hch p.1 z).2.2.2 p hp rfl
  exact ⟨keep p.1 p.2 ne nf nch e n,free p.1 p.2 nch e n,ne,nf,d⟩
theorem Inv.un {t':Nat} (I:Inv X pins σ H s) (u:Un X.fs [] H H' s.heap h') (hok:HOk X.prog X.w H' h'):Inv X pins σ H' { s with heap:=h',toks:=t' }:=by
 obtain ⟨m,⟨o,es,ep,ho,r⟩,_⟩:=id I.loc
 obtain ⟨sl,hL⟩:=u.any ho I.free (by simp)
 exact I.step (g':=s.gens) (d':=s.drawn) (ch:=[]) (fun _ z=>nomatch z) (fun b o _ hb _ e n=>u.keep b o e n hb (by simp)) (fun b o _ hb _ e n=>u.slot b o e n hb (by simp)) (fun b o _ e n=>u.free b o e n (by simp)) (fun b o _ e=>u.there b o e (by simp)) u.tups u.frzs u.tbls (fun m' hm=>by
  obtain ⟨o',es',ep',ho',r'⟩:=hm
  rw [ho] at ho'; cases ho'
  exact ⟨_,es',ep',hL,r'⟩) hok I.bare
theorem Inv.call {g':Array GenState} {t':Nat} {d':Drawn} {ch:List Addr} (I:Inv X pins σ H s) (u:Un (frs X.stack) ch H H' s.heap h') (hok:HOk X.prog X.w H' h') (hg:AllBare g')
  (hch:∀ b∈ch,(b∈X.ex∨X.s₀.heap.objs.size≤b)∧b≠X.env.locals∧(∀ x c,X.env.cells.lookup x=some c→c≠b)∧∀ p∈X.pn++pins,p.1≠b) :
  Inv X pins σ H' { s with heap:=h',gens:=g',drawn:=d',toks:=t' }:=by
 obtain ⟨m,⟨o,es,ep,ho,r⟩,_⟩:=id I.loc
 obtain ⟨sl,hL⟩:=u.any ho I.free fun z=>(hch _ z).2.1 rfl
 exact I.step (ch:=ch) hch (fun b o hL hb hc e n=>u.keep b o e n (fun z=>(List.mem_cons.mp (I.stkSub b z)).elim hL hb) hc) (fun b o _ _ hc e n=>u.any e n hc) (fun b o hc e n=>u.free b o e n hc) (fun b o hc e=>u.there b o e hc) u.tups u.frzs u.tbls (fun m' hm=>by
  obtain ⟨o',es',ep',ho',r'⟩:=hm
  rw [ho] at ho'; cases ho'
  exact ⟨_,es',ep',hL,r'⟩) hok hg
theorem Inv.turned {t':Nat} {it:Addr} (I:Inv X pins σ H s) (k:∀ b o,b≠it→s.heap.get? b=some o→h'.get? b=some o) (hn:H it=none) (hL:it≠X.env.locals)
  (h1:it∈X.ex∨X.s₀.heap.objs.size≤it) (h2:∀ x c,X.env.cells.lookup x=some c→c≠it) (h3:∀ p∈X.pn++pins,p.1≠it):Inv X pins σ H { s with heap:=h',toks:=t' }:=by
 have nit:∀ b u,H b=some u→b≠it:=fun b u e z=>by rw [z,hn] at e; cases e
 refine I.step (g':=s.gens) (d':=s.drawn) (ch:=[it]) (fun b hb=>?_) (fun b o _ _ hc e _=>k b o (fun z=>hc (by simp [z])) e) (fun b o _ _ hc e _=>⟨o.slots,k b o (fun z=>hc (by simp [z])) e⟩) (fun _ _ _ _ n=>n)
  (fun b o hc e=>⟨o,k b o (fun z=>hc (by simp [z])) e⟩) (fun _ _ e=>e) (fun _ _ _ e=>e) (fun b ps e=>⟨#[],by rw [e]; simp⟩) (fun m hm=>?_) (fun b u e=>?_) I.bare
 ·have e:b=it:=by simpa using hb
  subst e
  exact ⟨h1,hL,h2,h3⟩
 ·obtain ⟨o,es,ep,ho,r⟩:=hm
  exact ⟨o,es,ep,k _ o (Ne.symm hL) ho,r⟩
 ·refine (I.hok b u e).stay (fun c v hc q=>k c v ?_ q) (fun _ q=>q) fun _ _ q=>q
  rcases hc with z | z
  ·rw [z]; exact nit b u e
  ·exact nit c _ z
theorem Inv.tok (I:Inv X pins σ H s) (t:Nat):Inv X pins σ H { s with toks:=t }:=I.un (h':=s.heap) (t':=t) Un.refl I.hok
theorem Inv.kept {t':Nat} (I:Inv X pins σ H s) (k:∀ b u,s.heap.get? b=some u→h'.get? b=some u):Inv X pins σ H { s with heap:=h',toks:=t' }:=I.un (Un.kept k) (I.hok.kept k)
theorem Inv.laid {a:Addr} {o:HO} {t':Nat} (I:Inv X pins σ H s) (k:∀ b u,s.heap.get? b=some u→h'.get? b=some u) (hp:s.heap.objs.size≤a) (new:ObjOk X.prog X.w (upd H a o) h' a o) :
  Inv X pins σ (upd H a o) { s with heap:=h',toks:=t' }:=I.un (Un.laid k hp (I.hok.fresh hp)) (I.hok.laid k hp new)
theorem Inv.write {x e:Addr} {o:HO} {t':Nat} (I:Inv X pins σ H s) (mu:Mut (H x)) (he:e=x∨H e=some (.own x)) (k:∀ b u,b≠e→s.heap.get? b=some u→h'.get? b=some u) (heo:∃ u,h'.get? e=some u)
  (new:ObjOk X.prog X.w (upd H x o) h' x o):Inv X pins σ (upd H x o) { s with heap:=h',toks:=t' }:=I.un (Un.write mu he k heo) (I.hok.write mu he k heo new)
theorem Inv.pins_of {pins':List (Addr × Obj)} (I:Inv X pins σ H s) (h:∀ p∈pins',s.heap.get? p.1=some p.2∧H p.1=none∧p.1≠X.env.locals∧p.1 ∉ X.fs∧∀ v,p.2.data≠.cell v):Inv X pins' σ H s :=
 ⟨I.ok,I.os,I.bare,I.base,I.loc,I.cell,I.free,I.freeC,fun p hp=>(List.mem_append.mp hp).elim (fun z=>I.pin p (List.mem_append_left _ z)) (h p),I.hok,I.len⟩
theorem mW {N:List Str} (hN:N.Nodup) {i j:Nat} {x:Str} (a:N[i]?=some x) (b:N[j]?=some x):i=j:=by
 obtain ⟨h1,e1⟩:=List.getElem?_eq_some_iff.mp a
 obtain ⟨h2,e2⟩:=List.getElem?_eq_some_iff.mp b
 exact (List.getElem_inj hN).mp (e1.trans e2.symm)
theorem lH {M:Model} {A:Around} {E:Value→Shared→Prop} {i:Nat} {x:Str} {v:V} {u:Value} {Q:Unit→Shared→Prop} (I:Inv X pins σ H s) (hN:X.N.Nodup) (hi:X.N[i]?=some x) (hx:Loc X.env.scope x) (r:RelV v u)
  (h:∀ s',Inv X pins (σ.set i (some v)) H s'→(∃ a,Heap.SameBut a s.heap s'.heap∧(a=X.env.locals∨X.env.cells.lookup x=some a))→Q () s') (hf:X.fn x=true∨X.env.scope.names.lookup x=some .local:=by first | exact .inl rfl | exact .inr rfl | assumption):wpAny M A (storeName X.env x u) Q E s:=by
 obtain ⟨m,hn,hl⟩:=id I.loc
 have hcls:(X.env.scope.kind == .class || (X.env.scope.kind == .module && X.env.locals != X.env.globals))=false:=by rw [I.ok.kind]; rfl
 have hiσ:i < σ.length:=by rw [I.len]; exact (List.getElem?_eq_some_iff.mp hi).1
 have cne:=I.cne
 have tracked:∀ {a:Addr} {h':Heap},(∃ o,s.heap.get? a=some o∧H a=none)→Heap.SameBut a s.heap h'→HOk X.prog X.w H h':=fun {a h'} ha hs b ob e=>by
  obtain ⟨_,_,hfree⟩:=ha
  refine (I.hok b ob e).stay (fun c w' hc q=>(hs.2 c ?_).trans q) (fun _ q=>q) fun _ _ q=>q
  rintro rfl
  rcases hc with rfl | hc
  ·rw [hfree] at e; cases e
  ·rw [hfree] at hc; cases hc
 rcases hx with hk | hk
 ·refine wpAny_storeName_local hk hn (fun h' hn' hs=>?_) hcls
  obtain ⟨oL,_,_,hoL,_⟩:=id hn
  refine h _ ⟨I.ok,I.os,I.bare,⟨fun b o e n hb hx=>?_,fun b o e n hb hx=>?_,I.base.free,fun b o e hx=>?_,I.base.tups,I.base.frzs,I.base.tbls⟩,⟨_,hn',fun j y v' e1 e2 e3=>?_⟩,fun y c e=>?_,I.free,I.freeC,fun p hp=>?_,tracked ⟨oL,hoL,I.free⟩ hs,by simpa using I.len⟩ ⟨_,hs,.inl rfl⟩
  ·exact (hs.2 b (Nat.ne_of_lt (Nat.lt_of_lt_of_le (Heap.lt_size e) I.ok.above))).trans (I.base.keep b o e n hb hx)
  ·obtain ⟨sl,e1⟩:=I.base.slot b o e n hb hx
   exact ⟨sl,(hs.2 b (Nat.ne_of_lt (Nat.lt_of_lt_of_le (Heap.lt_size e) I.ok.above))).trans e1⟩
  ·obtain ⟨o',e1⟩:=I.base.there b o e hx
   exact ⟨o',(hs.2 b (Nat.ne_of_lt (Nat.lt_of_lt_of_le (Heap.lt_size e) I.ok.above))).trans e1⟩
  ·by_cases hj:j=i
   ·subst hj
    rw [hi] at e1; cases e1
    rw [List.getElem?_set_self hiσ] at e2
    cases e2
    exact ⟨u,r,.inl ⟨hk,by simp⟩⟩
   ·rw [List.getElem?_set_ne (Ne.symm hj)] at e2
    obtain ⟨u',r',q⟩:=hl j y v' e1 e2 e3
    refine ⟨u',r',?_⟩
    rcases q with ⟨k,e⟩ | ⟨k,c,e,z⟩
    ·refine .inl ⟨k,?_⟩
     have:y≠x:=fun e=>hj (mW hN e1 (e ▸ hi))
     simp [this,e]
    ·exact .inr ⟨k,c,e,z.sameBut hs (cne y c e)⟩
  ·obtain ⟨w',z⟩:=I.cell y c e
   exact ⟨w',z.sameBut hs (cne y c e)⟩
  ·obtain ⟨e,n,ne,nf,d⟩:=I.pin p hp
   exact ⟨(hs.2 p.1 ne).trans e,n,ne,nf,d⟩
 ·have hfn:X.fn x=true:=by
   rcases hf with z | z
   ·exact z
   ·rw [z] at hk; cases hk
  obtain ⟨c,hc⟩:=I.ok.has x (.inl hk)
  obtain ⟨w',z⟩:=I.cell x c hc
  refine wpAny_storeName_cell I.ok.kind hk hc z (fun h' hc' hs=>?_)
  obtain ⟨oc,hoc,hocd⟩:=id z
  refine h { s with heap:=h' } ⟨I.ok,I.os,I.bare,⟨fun b o e n hb hx=>?_,fun b o e n hb hx=>?_,I.base.free,fun b o e hx=>?_,I.base.tups,I.base.frzs,I.base.tbls⟩,⟨m,hn.sameBut hs (Ne.symm (cne x c hc)),fun j y v' e1 e2 e3=>?_⟩,fun y c' e=>?_,I.free,I.freeC,fun p hp=>?_,tracked ⟨oc,hoc,I.freeC x c hc⟩ hs,by simpa using I.len⟩ ⟨c,hs,.inr hc⟩
  ·exact (hs.2 b (Nat.ne_of_lt (Nat.lt_of_lt_of_le (Heap.lt_size e) (I.ok.cab x c hfn hc)))).trans (I.base.keep b o e n hb hx)
  ·obtain ⟨sl,e1⟩:=I.base.slot b o e n hb hx
   exact ⟨sl,(hs.2 b (Nat.ne_of_lt (Nat.lt_of_lt_of_le (Heap.lt_size e) (I.ok.cab x c hfn hc)))).trans e1⟩
  ·obtain ⟨o',e1⟩:=I.base.there b o e hx
   exact ⟨o',(hs.2 b (Nat.ne_of_lt (Nat.lt_of_lt_of_le (Heap.lt_size e) (I.ok.cab x c hfn hc)))).trans e1⟩
  ·by_cases hj:j=i
   ·subst hj
    rw [hi] at e1; cases e1
    rw [List.getElem?_set_self hiσ] at e2
    cases e2
    exact ⟨u,r,.inr ⟨.inl hk,c,hc,hc'⟩⟩
   ·rw [List.getElem?_set_ne (Ne.symm hj)] at e2
    obtain ⟨u',r',q⟩:=hl j y v' e1 e2 e3
    refine ⟨u',r',?_⟩
    rcases q with q | ⟨k,c',e,z'⟩
    ·exact .inl q
    ·refine .inr ⟨k,c',e,z'.sameBut hs ?_⟩
     rintro rfl
     exact hj (mW hN e1 (I.ok.inj _ _ _ e hc ▸ hi))
  ·by_cases hcc:c'=c
   ·subst hcc; exact ⟨_,hc'⟩
   ·obtain ⟨w2,z2⟩:=I.cell y c' e
    exact ⟨w2,z2.sameBut hs hcc⟩
  ·obtain ⟨e,n,ne,nf,d⟩:=I.pin p hp
   refine ⟨(hs.2 p.1 ?_).trans e,n,ne,nf,d⟩
   intro q
   rw [q,hoc] at e
   have q':oc=p.2:=Option.some.inj e
   exact d w' (by rw [← q']; exact hocd)
theorem mL {M:Model} {A:Around} {E:Value→Shared→Prop} {i:Nat} {x:Str} {v:V} {u:Value} {Q:Unit→Shared→Prop} (I:Inv X pins σ H s) (hN:X.N.Nodup) (hi:X.N[i]?=some x) (hx:Loc X.env.scope x) (r:RelV v u)
  (h:∀ s',Inv X pins (σ.set i (some v)) H s'→Q () s') (hf:X.fn x=true∨X.env.scope.names.lookup x=some .local:=by first | exact .inl rfl | exact .inr rfl | assumption):wpAny M A (storeName X.env x u) Q E s :=
 lH I hN hi hx r (fun s' I' _=>h s' I') hf
theorem Inv.call' {s':Shared} {ch:List Addr} (I:Inv X pins σ H s) (ho:s'.os=s.os) (u:Un (frs X.stack) ch H H' s.heap s'.heap) (hok:HOk X.prog X.w H' s'.heap) (hg:AllBare s'.gens)
  (hch:∀ b∈ch,(b∈X.ex∨X.s₀.heap.objs.size≤b)∧b≠X.env.locals∧(∀ x c,X.env.cells.lookup x=some c→c≠b)∧∀ p∈X.pn++pins,p.1≠b):Inv X pins σ H' s':=by
 obtain ⟨h',g',d',t',o'⟩:=s'
 have e:o'=s.os:=ho
 subst e
 exact I.call (g':=g') (t':=t') (d':=d') u hok hg hch
end
abbrev XK:=Value→Option Addr→Hp→Prop
abbrev St:=List (Option V)
abbrev VK:=V→Hp→Prop
abbrev TE:=St→Hp→VK→Prop
abbrev TT:=St→Hp→(Bool→Hp→Prop)→Prop
abbrev TA:=St→Hp→(List V→Hp→Prop)→Prop
structure Ends where
 nx:St→Hp→Prop
 rt:VK
 bk:St→Hp→Prop:=fun _ _=>False
 ct:St→Hp→Prop:=fun _ _=>False
abbrev TS:=Ends→St→Hp→Prop
def EP (X:Cx) (pins:List (Addr × Obj)) (σ:St) (Q:VK) (u:Value) (s':Shared):Prop:=∃ v H',Inv X pins σ H' s'∧RelV v u∧Q v H'
def TP (X:Cx) (pins:List (Addr × Obj)) (σ:St) (Q:Bool→Hp→Prop) (b:Bool) (s':Shared):Prop:=∃ H',Inv X pins σ H' s'∧Q b H'
def AP (X:Cx) (pins:List (Addr × Obj)) (σ:St) (Q:List V→Hp→Prop) (us:List Value) (s':Shared):Prop:=∃ vs H',Inv X pins σ H' s'∧Vals vs us∧Q vs H'
def SP (X:Cx) (pins:List (Addr × Obj)) (D:Ends) (f:Flow) (s':Shared):Prop :=
 match f with
 | .next=>∃ σ' H',Inv X pins σ' H' s'∧D.nx σ' H'
 | .brk=>∃ σ' H',Inv X pins σ' H' s'∧D.bk σ' H'
 | .cont=>∃ σ' H',Inv X pins σ' H' s'∧D.ct σ' H'
 | .ret u=>∃ v σ' H',Inv X pins σ' H' s'∧RelV v u∧D.rt v H'
def PE (X:Cx) (e:Expr) (t:TE):Prop :=
 ∀ (pins:List (Addr × Obj)) (s:Shared) (σ:St) (H:Hp) (Q:VK),Inv X pins σ H s→t σ H Q→wpAny (model X.prog X.w) X.A (eval e X.env) (EP X pins σ Q) X.xe s
def PT (X:Cx) (e:Expr) (t:TT):Prop :=
 ∀ (pins:List (Addr × Obj)) (s:Shared) (σ:St) (H:Hp) (Q:Bool→Hp→Prop),Inv X pins σ H s→t σ H Q→wpAny (model X.prog X.w) X.A (isTrue e X.env (eval e X.env)) (TP X pins σ Q) X.xe s
def PW (X:Cx) (e:Expr) (t:TT):Prop :=
 ∀ (whole:Sem Value) (pins:List (Addr × Obj)) (s:Shared) (σ:St) (H:Hp) (Q:Bool→Hp→Prop),Inv X pins σ H s→t σ H Q→wpAny (model X.prog X.w) X.A (isTrue e X.env whole) (TP X pins σ Q) X.xe s
theorem PW.pt {X:Cx} {e:Expr} {t:TT} (h:PW X e t):PT X e t:=h _
def PA (X:Cx) (es:List Expr) (t:TA):Prop :=
 ∀ (pos:Pos) (pins:List (Addr × Obj)) (s:Shared) (σ:St) (H:Hp) (Q:List V→Hp→Prop),Inv X pins σ H s→t σ H Q→wpAny (model X.prog X.w) X.A (spliced (backTo pos (starEach es X.env))) (AP X pins σ Q) X.xe s
def PS (X:Cx) (st:Stmt) (t:TS):Prop :=
 ∀ (pins:List (Addr × Obj)) (s:Shared) (σ:St) (H:Hp) (D:Ends),Inv X pins σ H s→t D σ H→wpAny (model X.prog X.w) X.A (exec st X.env) (SP X pins D) X.xe s
def PSs (X:Cx) (st:List Stmt) (t:TS):Prop :=
 ∀ (pins:List (Addr × Obj)) (s:Shared) (σ:St) (H:Hp) (D:Ends),Inv X pins σ H s→t D σ H→wpAny (model X.prog X.w) X.A (execs st X.env) (SP X pins D) X.xe s
theorem thn {α:Type} {t:Sem α} {Q Q':α→Shared→Prop} {M:Model} {A:Around} {E:Value→Shared→Prop} {s:Shared} (h:wpAny M A t Q E s) (hQ:∀ a s,Q a s→Q' a s):wpAny M A t Q' E s:=wpAny_mono h hQ fun _ _ x=>x
end L2
namespace L2
open PySem PySem.Spec PyProof.Rows
section
variable {X:Cx}
def ff (i:Nat):TE:=fun σ H Q=>∃ v,σ[i]?=some (some v)∧Q v H
def tC (v:V):TE:=fun _ H Q=>Q v H
theorem dF {i:Nat} {x:Str} {pos:Pos} (hN:X.N[i]?=some x) (hv:Vis X.env.scope x) (hd:(x == ("__debug__" : Str))=false:=by decide) (hcd:(x == ("__classdict__" : Str))=false:=by decide):PE X (.Name x pos) (ff i):=by
 intro pins s σ H Q I h
 obtain ⟨v,e,h⟩:=h
 obtain ⟨m,hn,hl⟩:=I.loc
 obtain ⟨u,r,l⟩:=hl i x v hN e hv
 have fin:EP X pins σ Q u s:=⟨v,H,I,r,h⟩
 rcases l with ⟨hk,hm⟩ | ⟨hk,c,hc,hcell⟩
 ·exact wpAny_Name (wpAny_loadName_local I.ok.kind hk hn hm fin) hd
 ·rcases hk with hk | hk
  ·exact wpAny_Name (wpAny_loadName_cell I.ok.kind hk hc hcell fin) hd
  ·exact wpAny_Name (wpAny_loadName_free I.ok.kind hk hc hcell fin hcd) hd
theorem pe_int {i j pos}:PE X (.Constant (.int i) j pos) (tC (.int i)):=fun _ _ _ H _ I h=>wpAny_Constant_int ⟨.int i,H,I.tok _,⟨_,rfl⟩,h⟩
theorem pe_bl {b j pos}:PE X (.Constant (.bool b) j pos) (tC (.bl b)):=fun _ _ _ H _ I h=>Constant_bool ⟨.bl b,H,I,rfl,h⟩
theorem pe_non {j pos}:PE X (.Constant .none j pos) (tC .non):=fun _ _ _ H _ I h=>Constant_none ⟨.non,H,I,rfl,h⟩
theorem pe_str {x j pos}:PE X (.Constant (.str x) j pos) (tC (.str x)):=fun _ _ _ H _ I h=>Calls.Constant_str ⟨.str x,H,I.tok _,⟨_,rfl⟩,h⟩
def Gl (X:Cx) (x:Str):Prop:=X.env.kindOf x=some .globalImplicit
theorem gl {E:Value→Shared→Prop} {pins:List (Addr × Obj)} {s:Shared} {σ:St} {H:Hp} {x:Str} {u:Value} {pos:Pos} {Q:Value→Shared→Prop} (I:Inv X pins σ H s) (hg:Gl X x) (hm:X.mg x=some u) (h:Q u s)
  (hd:(x == ("__debug__" : Str))=false:=by decide):wpAny (model X.prog X.w) X.A (eval (.Name x pos) X.env) Q E s :=
 Calls.Name_function_global I.ok.kind hg (Calls.loadGlobal_global (by rw [I.ok.glob]; exact I.mod.glob.keeps I.bk) hm h) hd
theorem iy {E:Value→Shared→Prop} {pins:List (Addr × Obj)} {s:Shared} {σ:St} {H:Hp} {x:Str} {u:Value} {pos:Pos} {Q:Value→Shared→Prop} (I:Inv X pins σ H s) (hg:Gl X x) (hm:X.mg x=none) (hv:bootBuiltins x=some u) (h:Q u s)
  (hn:x≠"__name__":=by decide) (hd:(x == ("__debug__" : Str))=false:=by decide):wpAny (model X.prog X.w) X.A (eval (.Name x pos) X.env) Q E s:=by
 obtain ⟨mb,h1,h2⟩:=I.mod.blt
 exact Calls.Name_function_global I.ok.kind hg (Calls.loadGlobal_builtin (by rw [I.ok.glob]; exact I.mod.glob.keeps I.bk) hm (by rw [I.ok.blt]; exact h1.keeps I.bk) ((h2 x hn).trans hv) h) hd
theorem Aw {x:Str} {v:V} {u:Value} {pos:Pos} (hg:Gl X x) (hm:X.mg x=some u) (r:RelV v u) (hd:(x == ("__debug__" : Str))=false:=by decide):PE X (.Name x pos) (tC v) :=
 fun _ _ _ H _ I h=>gl I hg hm ⟨v,H,I,r,h⟩ hd
theorem AB {x:Str} {v:V} {u:Value} {pos:Pos} (hg:Gl X x) (hm:X.mg x=none) (hv:bootBuiltins x=some u) (r:RelV v u) (hn:x≠"__name__":=by decide) (hd:(x == ("__debug__" : Str))=false:=by decide):PE X (.Name x pos) (tC v) :=
 fun _ _ _ H _ I h=>iy I hg hm hv ⟨v,H,I,r,h⟩ hn hd
variable {a b:Expr} {ta tb:TE} {pos:Pos}
def PC (X:Cx) (op:CmpOp) (a b:Expr) (t:TE):Prop :=
 ∀ (pins:List (Addr × Obj)) (s:Shared) (σ:St) (H:Hp) (Q:VK),Inv X pins σ H s→t σ H Q →
  wpAny (model X.prog X.w) X.A (eval a X.env) (fun v s₁=>wpAny (model X.prog X.w) X.A (eval b X.env) (fun u s₂=>wpAny (model X.prog X.w) X.A (compareOp op v u) (EP X pins σ Q) X.xe s₂) X.xe s₁) X.xe s
def tB (t:TE):TT:=fun σ H Q=>t σ H fun x H1=>∃ c,x=.bl c∧Q c H1
theorem DR {e:Expr} {t:TE} (h:PE X e t) (he:∀ whole,isTrue e X.env whole=(do let v ← whole; standAt e.pos; holding [v] (truthy v)):=by intro _; rfl):PT X e (tB t):=by
 intro pins s σ H Q I hw
 refine isTrue_plain (thn (h pins s σ H _ I hw) fun v s1 ⟨x,H1,I1,r1,q1⟩=>?_) (he _)
 obtain ⟨d,rfl,q⟩:=q1
 cases r1
 exact wpAny_truthy_bool ⟨H1,I1,q⟩
variable {tA tB':TT} {rest:List Expr}
def DE (t u:TT):TT:=fun σ H Q=>t σ H fun c H1=>if c=true then u σ H1 Q else Q false H1
def tOr (t u:TT):TT:=fun σ H Q=>t σ H fun c H1=>if c=true then Q true H1 else u σ H1 Q
def DA (t:TT):TT:=fun σ H Q=>t σ H fun c H1=>Q (!c) H1
theorem Al (ha:PT X a tA):PW X (.BoolOp .And [a] pos) tA:=by
 intro wh pins s σ H Q I h
 refine isTrue_and (thn (ha pins s σ H Q I h) fun c s1 e=>?_)
 cases c with
 | true=>exact isTrue_and_nil e
 | false=>exact e
theorem DP (ha:PT X a tA):PW X (.BoolOp .Or [a] pos) tA:=by
 intro wh pins s σ H Q I h
 refine isTrue_or (thn (ha pins s σ H Q I h) fun c s1 e=>?_)
 cases c with
 | false=>exact isTrue_or_nil e
 | true=>exact e
theorem DQ (ha:PT X a tA) (hb:PW X (.BoolOp .And (b :: rest) pos) tB'):PW X (.BoolOp .And (a :: b :: rest) pos) (DE tA tB'):=by
 intro wh pins s σ H Q I h
 refine isTrue_and (thn (ha pins s σ H _ I h) fun c s1 ⟨H1,I1,q1⟩=>?_)
 cases c with
 | true=>exact hb wh pins s1 σ H1 Q I1 q1
 | false=>exact ⟨H1,I1,q1⟩
theorem FJ (ha:PT X a tA) (hb:PW X (.BoolOp .Or (b :: rest) pos) tB'):PW X (.BoolOp .Or (a :: b :: rest) pos) (tOr tA tB'):=by
 intro wh pins s σ H Q I h
 refine isTrue_or (thn (ha pins s σ H _ I h) fun c s1 ⟨H1,I1,q1⟩=>?_)
 cases c with
 | true=>exact ⟨H1,I1,q1⟩
 | false=>exact hb wh pins s1 σ H1 Q I1 q1
theorem DS (ha:PT X a tA):PT X (.UnaryOp .Not a pos) (DA tA):=by
 intro pins s σ H Q I h
 exact isTrue_not (ha pins s σ H (fun c H1=>Q (!c) H1) I h)
def zw (ta tb:TE):TE:=fun σ H Q=>ta σ H fun x H1=>∃ c,x=.bl c∧if c=true then tb σ H1 Q else Q (.bl false) H1
def Dz (ta tb:TE):TE:=fun σ H Q=>ta σ H fun x H1=>∃ c,x=.bl c∧if c=true then Q (.bl true) H1 else tb σ H1 Q
theorem D1 {op} {t:TE} (h:PE X a t):PE X (.BoolOp op [a] pos) t:=fun pins s σ H Q I hw=>BoolOp_one (h pins s σ H Q I hw)
theorem D4 (ha:PE X a ta) (hb:PE X (.BoolOp .And (b :: rest) pos) tb):PE X (.BoolOp .And (a :: b :: rest) pos) (zw ta tb):=by
 intro pins s σ H Q I h
 refine BoolOp_and (thn (ha pins s σ H _ I h) fun v s1 ⟨x,H1,I1,r1,q1⟩=>?_)
 obtain ⟨c,rfl,q1⟩:=q1
 cases r1
 refine wpAny_truthy_bool ?_
 cases c with
 | true=>exact hb pins s1 σ H1 Q I1 q1
 | false=>exact ⟨.bl false,H1,I1,rfl,q1⟩
theorem FM (ha:PE X a ta) (hb:PE X (.BoolOp .Or (b :: rest) pos) tb):PE X (.BoolOp .Or (a :: b :: rest) pos) (Dz ta tb):=by
 intro pins s σ H Q I h
 refine BoolOp_or (thn (ha pins s σ H _ I h) fun v s1 ⟨x,H1,I1,r1,q1⟩=>?_)
 obtain ⟨c,rfl,q1⟩:=q1
 cases r1
 refine wpAny_truthy_bool ?_
 cases c with
 | false=>exact hb pins s1 σ H1 Q I1 q1
 | true=>exact ⟨.bl true,H1,I1,rfl,q1⟩
def tIf (t:TT) (ta tb:TE):TE:=fun σ H Q=>t σ H fun c H1=>if c=true then ta σ H1 Q else tb σ H1 Q
theorem sG {c:Expr} (hc:PT X c tA) (ha:PE X a ta) (hb:PE X b tb):PE X (.IfExp c a b pos) (tIf tA ta tb):=by
 intro pins s σ H Q I h
 refine wpAny_IfExp (thn (hc pins s σ H _ I h) fun d s1 ⟨H1,I1,q1⟩=>?_)
 cases d with
 | true=>exact ha pins s1 σ H1 Q I1 q1
 | false=>exact hb pins s1 σ H1 Q I1 q1
end
end L2
namespace L2
open PySem PySem.Spec PyProof.Rows
def SqL (K:PySem.W.Frag) (H:Hp) (a:Addr) (xs:List V):Prop :=
 Rd H a (.lst xs) ∨
  ∃ (o:Obj) (its:Array Value) (n:Nat),K.lookup a=some o∧o.cls=.type "list"∧o.dict=none∧o.data=.seq its n∧its.size≤sizeLine∧Vals xs its.toList
def SqT (K:PySem.W.Frag) (H:Hp) (a:Addr) (xs:List V):Prop :=
 Rd H a (.tup xs) ∨
  ∃ (o:Obj) (its:Array Value) (n:Nat),K.lookup a=some o∧o.cls=.type "tuple"∧o.data=.seq its n∧its.size≤sizeLine∧Vals xs its.toList
def GP:Value→Option V
 | .none=>some .non
 | .bool b=>some (.bl b)
 | .int i _=>some (.int i)
 | .str x _=>some (.str x)
 | .bytes b _=>some (.byt b)
 | .float b _=>some (.flt b)
 | .ref a=>some (.ref a)
 | .type n=>some (.ty n)
 | _=>none
theorem RelV.abs {x:V} {u:Value} (r:RelV x u):GP u=some x:=by
 cases x with
 | non=>cases r; rfl
 | bl _=>cases r; rfl
 | int _=>obtain ⟨t,rfl⟩:=r; rfl
 | str _=>obtain ⟨t,rfl⟩:=r; rfl
 | byt _=>obtain ⟨t,rfl⟩:=r; rfl
 | flt _=>obtain ⟨t,rfl⟩:=r; rfl
 | ref _=>cases r; rfl
 | ty _=>cases r; rfl
theorem RelV.inj {x y:V} {u:Value} (r:RelV x u) (q:RelV y u):x=y:=Option.some.inj (r.abs.symm.trans q.abs)
theorem Vals.inj:∀ {xs ys:List V} {us:List Value},Vals xs us→Vals ys us→xs=ys
 | _,_,_,.nil,.nil=>rfl
 | _,_,_,.cons r t,.cons r' t'=>by rw [r.inj r',Vals.inj t t']
section
variable {X:Cx} {pins:List (Addr × Obj)} {σ:St} {H:Hp} {s:Shared} {a:Addr} {xs ys:List V}
theorem SqL.of {K:PySem.W.Frag} (h:H a=some (.lst xs)):SqL K H a xs:=.inl (.inl h)
theorem SqT.of {K:PySem.W.Frag} (h:H a=some (.tup xs)):SqT K H a xs:=.inl (.inl h)
theorem Inv.list (I:Inv X pins σ H s) (h:SqL X.K H a xs):∃ its:List Value,Vals xs its∧PlainL s.heap a its.toArray∧xs.length≤sizeLine:=by
 rcases h with h | ⟨o,its,n,hk,hc,hd,hs,hz,r⟩
 ·obtain ⟨z,its,n,r,e⟩:=h.ok I.hok
  exact ⟨its,r,⟨_,n,e,rfl,rfl,rfl⟩,z⟩
 ·refine ⟨its.toList,r,⟨o,n,I.kIn a o hk,hc,hd,by simpa using hs⟩,?_⟩
  have e:=r.length
  simp only [Array.length_toList] at e
  omega
theorem Inv.tuple (I:Inv X pins σ H s) (h:SqT X.K H a xs):∃ its:List Value,Vals xs its∧IsTup s.heap a its.toArray∧xs.length≤sizeLine:=by
 rcases h with h | ⟨o,its,n,hk,hc,hs,hz,r⟩
 ·obtain ⟨z,its,r,p⟩:=h.ok I.hok
  exact ⟨its,r,p.tup,z⟩
 ·refine ⟨its.toList,r,⟨o,I.kIn a o hk,hc,n,by simpa using hs⟩,?_⟩
  have e:=r.length
  simp only [Array.length_toList] at e
  omega
theorem Inv.list_inj (I:Inv X pins σ H s) (h:SqL X.K H a xs) (h':SqL X.K H a ys):xs=ys:=by
 obtain ⟨its,r,⟨o,n,e,_,_,d⟩,_⟩:=I.list h
 obtain ⟨its',r',⟨o',n',e',_,_,d'⟩,_⟩:=I.list h'
 rw [e] at e'; cases e'
 rw [d] at d'
 injection d' with d1 _
 have:its=its':=by simpa using congrArg Array.toList d1
 subst this
 exact r.inj r'
theorem Inv.tuple_inj (I:Inv X pins σ H s) (h:SqT X.K H a xs) (h':SqT X.K H a ys):xs=ys:=by
 obtain ⟨its,r,⟨o,e,_,n,d⟩,_⟩:=I.tuple h
 obtain ⟨its',r',⟨o',e',_,n',d'⟩,_⟩:=I.tuple h'
 rw [e] at e'; cases e'
 rw [d] at d'
 injection d' with d1 _
 have:its=its':=by simpa using congrArg Array.toList d1
 subst this
 exact r.inj r'
end
abbrev Cx.wish (X:Cx) (E:Value→Shared→Prop):Cx:={ X with xe:=E }
abbrev Cx.nox (X:Cx):Cx:=X.wish fun _ _=>False
theorem Cx.Ok.wish {X:Cx} (ok:X.Ok) (E:Value→Shared→Prop):(X.wish E).Ok :=
 ⟨ok.mod,ok.kind,ok.glob,ok.blt,ok.above,ok.inj,ok.has,ok.cab,ok.hd,ok.frames,ok.stk,ok.exf,ok.bs,ok.bsz,ok.noex,ok.exfs,ok.funs,ok.frf⟩
theorem Cx.Ok.unwish {X:Cx} {E:Value→Shared→Prop} (ok:(X.wish E).Ok):X.Ok :=
 ⟨ok.mod,ok.kind,ok.glob,ok.blt,ok.above,ok.inj,ok.has,ok.cab,ok.hd,ok.frames,ok.stk,ok.exf,ok.bs,ok.bsz,ok.noex,ok.exfs,ok.funs,ok.frf⟩
section
variable {X:Cx} {pins:List (Addr × Obj)} {σ:St} {H:Hp} {s:Shared} {E:Value→Shared→Prop}
theorem Inv.wish (I:Inv X pins σ H s) (E:Value→Shared→Prop):Inv (X.wish E) pins σ H s:=⟨I.ok.wish E,I.os,I.bare,I.base,I.loc,I.cell,I.free,I.freeC,I.pin,I.hok,I.len⟩
theorem Inv.unwish (I:Inv (X.wish E) pins σ H s):Inv X pins σ H s:=⟨I.ok.unwish,I.os,I.bare,I.base,I.loc,I.cell,I.free,I.freeC,I.pin,I.hok,I.len⟩
theorem SP.unwish {D:Ends} {f:Flow} {s':Shared} (h:SP (X.wish E) pins D f s'):SP X pins D f s':=by
 cases f with
 | next=>obtain ⟨σ',H',I,q⟩:=h; exact ⟨σ',H',I.unwish,q⟩
 | brk=>obtain ⟨σ',H',I,q⟩:=h; exact ⟨σ',H',I.unwish,q⟩
 | cont=>obtain ⟨σ',H',I,q⟩:=h; exact ⟨σ',H',I.unwish,q⟩
 | ret u=>obtain ⟨v,σ',H',I,r,q⟩:=h; exact ⟨v,σ',H',I.unwish,r,q⟩
theorem PT.nox {e:Expr} {t:TT} (h:PT X.nox e t):PT X e t:=fun pins s σ H Q I hw =>
 wpAny_mono (h pins s σ H Q (I.wish _) hw) (fun _ _ ⟨H',I',q⟩=>⟨H',I'.unwish,q⟩) fun _ _ z=>False.elim z
theorem PSs.nox {st:List Stmt} {t:TS} (h:PSs X.nox st t):PSs X st t:=fun pins s σ H D I hw =>
 wpAny_mono (h pins s σ H D (I.wish _) hw) (fun _ _ q=>q.unwish) fun _ _ z=>False.elim z
end
section
variable {X:Cx} {st:Stmt} {rest:List Stmt} {t u:TS} {e:Expr} {te:TE} {pos:Pos}
def zr:TS:=fun D σ H=>D.nx σ H
def Dw (t u:TS):TS:=fun D σ H=>t { D with nx:=u D } σ H
theorem pss_nil:PSs X [] zr:=fun _ _ σ H _ I h=>wpAny_execs_nil ⟨σ,H,I,h⟩
theorem jB (h1:PS X st t) (h2:PSs X rest u):PSs X (st :: rest) (Dw t u):=by
 intro pins s σ H D I h
 refine wpAny_execs_cons (thn (h1 pins s σ H { D with nx:=u D } I h) fun f s1 q=>?_)
 cases f with
 | next =>
  obtain ⟨σ',H',I',q⟩:=q
  exact h2 pins s1 σ' H' D I' q
 | ret v=>exact q
 | brk=>exact q
 | cont=>exact q
theorem kS (h1:PS X st t):PSs X [st] t:=by
 intro pins s σ H D I h
 refine wpAny_execs_cons (thn (h1 pins s σ H D I h) fun f s1 q=>?_)
 cases f with
 | next=>exact wpAny_execs_nil q
 | ret v=>exact q
 | brk=>exact q
 | cont=>exact q
theorem Inv.quiet {pins:List (Addr × Obj)} {σ:St} {H:Hp} {s:Shared} (I:Inv X pins σ H s):interactive X.env=false:=by simp [interactive,I.ok.kind]
def zt (te:TE):TS:=fun D σ H=>te σ H fun _ H1=>D.nx σ H1
theorem Ao (he:PE X e te) (hs:swapsWith e none pos.line X.env=pure false:=by rfl):PS X (.Expr e pos) (zt te):=by
 intro pins s σ H D I h
 exact wpAny_Expr_any (thn (he pins s σ H _ I h) fun v s1 ⟨x,H1,I1,r1,q1⟩=>⟨σ,H1,I1,q1⟩) I.quiet hs
def Dx (te:TE):TS:=fun D σ H=>te σ H D.rt
theorem DU (he:PE X e te):PS X (.Return (some e) pos) (Dx te):=by
 intro pins s σ H D I h
 exact wpAny_Return_some (thn (he pins s σ H _ I h) fun v s1 ⟨x,H1,I1,r1,q1⟩=>⟨x,σ,H1,I1,r1,q1⟩)
def DC (c:TT) (t u:TS):TS:=fun D σ H=>c σ H fun b H1=>if b=true then t D σ H1 else u D σ H1
theorem zC {c:Expr} {a b:List Stmt} {tc:TT} (hc:PT X c tc) (ha:PSs X a t) (hb:PSs X b u):PS X (.If c a b pos) (DC tc t u):=by
 intro pins s σ H D I h
 refine wpAny_If (thn (hc pins s σ H _ I h) fun d s1 ⟨H1,I1,q1⟩=>?_)
 cases d with
 | true=>exact ha pins s1 σ H1 D I1 q1
 | false=>exact hb pins s1 σ H1 D I1 q1
def mI:TS:=fun _ _ _=>False
theorem ps_never:PS X st mI:=fun _ _ _ _ _ _ h=>h.elim
theorem lJ {sts:List Stmt}:PSs X sts mI:=fun _ _ _ _ _ _ h=>h.elim
end
abbrev TG:=V→St→Hp→(St→Hp→Prop)→Prop
abbrev TGs:=List V→St→Hp→(St→Hp→Prop)→Prop
def PG (X:Cx) (target:Expr) (t:TG):Prop :=
 ∀ (pins:List (Addr × Obj)) (s:Shared) (σ:St) (H:Hp) (v:V) (u:Value) (Q:St→Hp→Prop),Inv X pins σ H s→RelV v u→t v σ H Q →
  wpAny (model X.prog X.w) X.A (assign target X.env u) (fun _ s'=>∃ σ' H',Inv X pins σ' H' s'∧Q σ' H') X.xe s
def PGs (X:Cx) (ts:List Expr) (t:TGs):Prop :=
 ∀ (pins:List (Addr × Obj)) (s:Shared) (σ:St) (H:Hp) (vs:List V) (us:List Value) (Q:St→Hp→Prop),Inv X pins σ H s→Vals vs us→t vs σ H Q →
  wpAny (model X.prog X.w) X.A (assignInOrder ((assignEach ts X.env).map (·.2)) us) (fun _ s'=>∃ σ' H',Inv X pins σ' H' s'∧Q σ' H') X.xe s
abbrev ue:=V→V→V→Hp→(Hp→Prop)→Prop
def Fy (X:Cx) (t:ue):Prop :=
 ∀ (pins:List (Addr × Obj)) (s:Shared) (σ:St) (H:Hp) (o i v:V) (ov iv u:Value) (Q:Hp→Prop),Inv X pins σ H s→RelV o ov→RelV i iv→RelV v u→t o i v H Q →
  wpAny (model X.prog X.w) X.A (setItem ov iv u) (fun _ s'=>∃ H',Inv X pins σ H' s'∧Q H') X.xe s
section
variable {X:Cx} {pos:Pos}
def kj (i:Nat):TG:=fun v σ H Q=>Q (σ.set i (some v)) H
theorem Av {i:Nat} {x:Str} (hN:X.N.Nodup) (hi:X.N[i]?=some x) (hx:Loc X.env.scope x) (hf:X.fn x=true∨X.env.scope.names.lookup x=some .local:=by first | exact .inl rfl | exact .inr rfl | assumption):PG X (.Name x pos) (kj i):=by
 intro pins s σ H v u Q I r h
 exact wpAny_assign_Name (mL I hN hi hx r (fun s' I'=>⟨_,H,I',h⟩) hf)
def Ez:TGs:=fun vs σ H Q=>vs=[]∧Q σ H
def zQ (t:TG) (u:TGs):TGs:=fun vs σ H Q=>∃ v r,vs=v :: r∧t v σ H fun σ' H'=>u r σ' H' Q
theorem pgs_nil:PGs X [] Ez:=by
 intro pins s σ H vs us Q I r h
 obtain ⟨e,h⟩:=h
 subst e
 cases r
 exact assignInOrder_nil ⟨σ,H,I,h⟩
theorem sE {e:Expr} {es:List Expr} {t:TG} {u:TGs} (h1:PG X e t) (h2:PGs X es u)
  (hs:(assignEach (e :: es) X.env).map (·.2)=assign e X.env :: (assignEach es X.env).map (·.2):=by rfl):PGs X (e :: es) (zQ t u):=by
 intro pins s σ H vs us Q I r h
 obtain ⟨v,vr,e1,h⟩:=h
 subst e1
 cases r with
 | cons r rr =>
  rw [hs]
  refine assignInOrder_cons (thn (h1 pins s σ H _ _ _ I r h) fun _ s1 ⟨σ1,H1,I1,q1⟩=>?_)
  exact h2 pins s1 σ1 H1 _ _ Q I1 rr q1
def Ex (K:PySem.W.Frag) (n:Nat) (t:TGs):TG:=fun v σ H Q=>∃ a xs,v=.ref a∧SqT K H a xs∧xs.length=n∧t xs σ H Q
theorem DY {es:List Expr} {k:Nat} {t:TGs} {n:Nat} (hc:X.calm=true) (h:PGs X es t)
  (hn:(assignEach es X.env).length=n:=by rfl) (hst:(assignEach es X.env).findIdx? (·.1)=none:=by rfl):PG X (.Tuple es k pos) (Ex X.K n t):=by
 intro pins s σ H v u Q I r hw
 obtain ⟨a,xs,e1,hq,hl,hw⟩:=hw
 subst e1
 cases r
 obtain ⟨its,rv,ht,hz⟩:=I.tuple hq
 refine assign_Tuple_tuple (I.ok.hd hc) ht (by simp [hn,← hl,rv.length]) hst fun h' hx=>?_
 have I1:Inv X pins σ H { s with heap:=h' }:=I.kept (t':=s.toks) fun b o e=>hx b o (Nat.ne_of_lt (Heap.lt_size e)) e
 exact h pins _ σ H xs _ Q I1 (by simpa using rv) hw
def Ey (to ti:TE) (t:ue):TG:=fun v σ H Q=>to σ H fun o H1=>ti σ H1 fun i H2=>t o i v H2 fun H3=>Q σ H3
theorem DZ {o i:Expr} {to ti:TE} {t:ue} (ho:PE X o to) (hi:PE X i ti) (hs:Fy X t)
  (ha:∀ v,assign (.Subscript o i pos) X.env v=(do
   let ov ← holding [v] (eval o X.env)
   let iv ← holding [v,ov] (eval i X.env)
   standAt pos
   holding [v,ov,iv] (setItem ov iv v)
   release [v,ov,iv] []):=by intro _; rfl):PG X (.Subscript o i pos) (Ey to ti t):=by
 intro pins s σ H v u Q I r h
 rw [ha]
 refine wpAny_bind (wpAny_holding (thn (ho pins s σ H _ I h) fun ov s1 ⟨x,H1,I1,r1,q1⟩=>?_))
 refine wpAny_bind (wpAny_holding (thn (hi pins s1 σ H1 _ I1 q1) fun iv s2 ⟨y,H2,I2,r2,q2⟩=>?_))
 refine wpAny_bind (wpAny_standAt (wpAny_bind (wpAny_holding (thn (hs pins s2 σ H2 x y v ov iv u _ I2 r1 r2 r q2) fun _ s3 ⟨H3,I3,q3⟩=>?_))))
 exact wpAny_release ⟨σ,H3,I3,q3⟩
def mJ (te:TE) (g:TG):TS:=fun D σ H=>te σ H fun x H1=>g x σ H1 D.nx
theorem DX {tg e:Expr} {te:TE} {g:TG} (he:PE X e te) (hg:PG X tg g) (hs:swapsWithSole [tg] e pos.line X.env=pure false:=by rfl) (hw:swappedStores [tg] e X.env=pure none:=by rfl)
  (h1:(assignEach [tg] X.env).map (·.2)=[assign tg X.env]:=by rfl):PS X (.Assign [tg] e pos) (mJ te g):=by
 intro pins s σ H D I h
 refine wpAny_Assign_stores (thn (he pins s σ H _ I h) fun v s1 ⟨x,H1,I1,r1,q1⟩=>?_) hs hw
 rw [h1]
 exact thn (hg pins s1 σ H1 x v _ I1 r1 q1) fun _ s2 q=>q
theorem DT {i:Nat} {x:Str} {e:Expr} {te:TE} {pos':Pos} (hN:X.N.Nodup) (hi:X.N[i]?=some x) (hx:Loc X.env.scope x) (he:PE X e te) (hs:swapsWith e (some (.Name x pos')) pos.line X.env=pure false:=by rfl) (hf:X.fn x=true∨X.env.scope.names.lookup x=some .local:=by first | exact .inl rfl | exact .inr rfl | assumption) :
  PS X (.Assign [.Name x pos'] e pos) (mJ te (kj i)):=by
 intro pins s σ H D I h
 refine wpAny_Assign_Name (thn (he pins s σ H _ I h) fun v s1 ⟨y,H1,I1,r1,q1⟩=>?_) hs
 exact mL I1 hN hi hx r1 (fun s2 I2=>⟨_,H1,I2,q1⟩) hf
end
section
variable {X:Cx} {pos:Pos}
def qA (c:TT) (tb:TS):TS:=fun D σ H=>∃ W:Nat→St→Hp→Prop,(∃ m,W m σ H)∧∀ m σ H,W m σ H →
 c σ H fun b H1=>if b=true then ∃ N:St→Hp→Prop,(∀ σ' H',N σ' H'→∃ m',m' < m∧W m' σ' H')∧tb { D with nx:=N,ct:=N,bk:=D.nx } σ H1 else D.nx σ H1
theorem sy {c:Expr} {body:List Stmt} {tc:TT} {tb:TS} (hp:PassesOwn (model X.prog X.w) X.A X.env X.xe) (hc:PT X c tc) (hb:PSs X body tb):PS X (.While c body [] pos) (qA tc tb):=by
 intro pins s σ H D I h
 obtain ⟨W,⟨m0,w0⟩,turn⟩:=h
 refine wpAny_While (codeAny_whileLoop (fun n s'=>∃ σ' H',Inv X pins σ' H' s'∧W n σ' H') ?_ m0 ⟨σ,H,I,w0⟩)
 rintro n s1 ⟨σ1,H1,I1,w1⟩
 refine wpAny_passesOwn hp (thn (hc pins s1 σ1 H1 _ I1 (turn n σ1 H1 w1)) fun b s2 ⟨H2,I2,q2⟩=>?_)
 cases b with
 | true =>
  obtain ⟨N,hN,q2⟩:=q2
  rw [if_pos rfl]
  refine wpAny_passesOwn hp (thn (hb pins s2 σ1 H2 _ I2 q2) fun f s3 q3=>?_)
  cases f with
  | next =>
   obtain ⟨σ3,H3,I3,n3⟩:=q3
   obtain ⟨m',hm,w3⟩:=hN σ3 H3 n3
   exact ⟨m',hm,σ3,H3,I3,w3⟩
  | cont =>
   obtain ⟨σ3,H3,I3,n3⟩:=q3
   obtain ⟨m',hm,w3⟩:=hN σ3 H3 n3
   exact ⟨m',hm,σ3,H3,I3,w3⟩
  | brk=>exact q3
  | ret v=>exact q3
 | false =>
  rw [if_neg Bool.false_ne_true]
  exact wpAny_execs_nil ⟨σ1,H2,I2,q2⟩
end
structure It where
 go:Nat→Hp→Prop
 yld:Nat→Hp→V→Hp→Prop
 stop:Nat→Hp→Prop
def fA (X:Cx) (pins:List (Addr × Obj)) (H:Hp) (b:Addr):Prop :=
 H b=none∧b≠X.env.locals∧b ∉ X.fs∧(b∈X.ex∨X.s₀.heap.objs.size≤b)∧(∀ x c,X.env.cells.lookup x=some c→c≠b)∧∀ p∈X.pn++pins,p.1≠b
theorem Inv.fpOk {X:Cx} {pins:List (Addr × Obj)} {σ:St} {H H':Hp} {s:Shared} {b:Addr} (I:Inv X pins σ H s) (hb:s.heap.objs.size≤b) (hn:H' b=none):fA X pins H' b:=by
 refine ⟨hn,Nat.ne_of_gt (Nat.lt_of_lt_of_le I.lt hb),I.nofs hb,.inr (Nat.le_trans I.sz hb),fun x c e z=>?_,fun p hp z=>?_⟩
 ·obtain ⟨v,q⟩:=I.cell x c e
  exact absurd (Nat.lt_of_lt_of_le q.lt (by rw [z]; exact hb)) (Nat.lt_irrefl _)
 ·exact absurd (Nat.lt_of_lt_of_le (Heap.lt_size (I.pin p hp).1) (by rw [z]; exact hb)) (Nat.lt_irrefl _)
structure Turn (P:Program) (w:World) (K:PySem.W.Frag) (tg:Expr) (J:It) (fp:List Addr) (it:Addr) (tn:Nat→Heap→Prop):Prop where
 mem:it∈fp
 obj:∀ i h,tn i h→∀ b∈fp,∃ o,h.get? b=some o∧∀ v,o.data≠.cell v
 keep:∀ i h h',tn i h→(∀ b∈fp,∀ o,h.get? b=some o→h'.get? b=some o)→tn i h'
 item:∀ (X:Cx),X.prog=P→X.w=w→X.K=K→X.calm=true→∀ (i:Nat) (pins:List (Addr × Obj)) (s:Shared) (σ:St) (H:Hp) (E:Value→Shared→Prop),Inv X pins σ H s→(∀ b∈fp,fA X pins H b)→tn i s.heap→J.go i H →
  wpAny (model P w) X.A (pyNext (.ref it)) (fun r s1=>∃ u,r=some u ∧
   wpAny (model P w) X.A (letOwnedTupleGo tg (.ref it) u) (fun _ s2=>∃ x H',Inv X pins σ H' s2∧RelV x u∧J.yld i H x H'∧tn (i+1) s2.heap∧∀ b∈fp,H' b=none) E s1) E s
 done:∀ (X:Cx),X.prog=P→X.w=w→X.K=K→X.calm=true→∀ (i:Nat) (pins:List (Addr × Obj)) (s:Shared) (σ:St) (H:Hp) (E:Value→Shared→Prop),Inv X pins σ H s→(∀ b∈fp,fA X pins H b)→tn i s.heap→J.stop i H →
  wpAny (model P w) X.A (pyNext (.ref it)) (fun r s1=>r=none∧Inv X pins σ H s1) E s
 self:∀ (A:Around) (i:Nat) (s:Shared) (Q:Value→Shared→Prop) (E:Value→Shared→Prop),tn i s.heap→Q (.ref it) s→wpAny (model P w) A (pyIter (.ref it)) Q E s
abbrev TI:=St→Hp→(It→Hp→Prop)→Prop
def PIE (X:Cx) (pins:List (Addr × Obj)) (σ:St) (tg:Expr) (R:It→Hp→Prop) (itv:Value) (s2:Shared):Prop :=
 ∃ (it:Addr) (fp:List Addr) (tn:Nat→Heap→Prop) (J:It) (H':Hp),itv=.ref it∧Inv X pins σ H' s2∧Turn X.prog X.w X.K tg J fp it tn∧tn 0 s2.heap∧(∀ b∈fp,fA X pins H' b)∧R J H'
def PI (X:Cx) (tg iter:Expr) (wi:TI):Prop :=
 ∀ (pins:List (Addr × Obj)) (s:Shared) (σ:St) (H:Hp) (R:It→Hp→Prop),Inv X pins σ H s→wi σ H R →
  wpAny (model X.prog X.w) X.A (eval iter X.env) (fun v s1=>wpAny (model X.prog X.w) X.A (pyIter v) (PIE X pins σ tg R) X.xe s1) X.xe s
theorem mx {M:Model} {A:Around} {E:Value→Shared→Prop} {s:Shared} {tg:Expr} {it:Addr} {u:Value} {o:Obj} {n:String} {vs:Array Value} {Q:Unit→Shared→Prop} (ho:s.heap.get? it=some o) (hc:o.cls=.type n) (hd:o.data=.fields vs)
  (hn:["enumerate", "zip", "dict_itemiterator", "dict_reverseitemiterator", "odict_iterator", "itertools.zip_longest", "itertools.pairwise"].contains n=false) (hQ:Q () s):wpAny M A (letOwnedTupleGo tg (.ref it) u) Q E s:=by
 unfold letOwnedTupleGo
 cases tg <;> first
  | exact wpAny_pure hQ
  | (cases u <;> first
    | exact wpAny_pure hQ
    | (refine wpAny_bind (wpAny_load ho ?_)
       rw [hc,hd]
       show wpAny M A (if (["enumerate", "zip", "dict_itemiterator", "dict_reverseitemiterator", "odict_iterator", "itertools.zip_longest", "itertools.pairwise"].contains n && vs[0]? == some (rawInt _))=true then _ else _) Q E s
       rw [if_neg (by intro h; rw [hn,Bool.false_and] at h; cases h)]
       exact wpAny_pure hQ))
def Itl (K:PySem.W.Frag) (a:Addr):It :=
 ⟨fun i H=>∃ xs x,SqL K H a xs∧xs[i]?=some x,fun i H x H'=>H'=H∧∀ xs,SqL K H a xs→xs[i]?=some x,fun i H=>∃ xs,SqL K H a xs∧xs.length≤i⟩
def Itt (K:PySem.W.Frag) (a:Addr):It :=
 ⟨fun i H=>∃ xs x,SqT K H a xs∧xs[i]?=some x,fun i H x H'=>H'=H∧∀ xs,SqT K H a xs→xs[i]?=some x,fun i H=>∃ xs,SqT K H a xs∧xs.length≤i⟩
def Itr (lo:Int) (n:Nat):It:=⟨fun i _=>i < n,fun i H x H'=>H'=H∧x=.int (lo+i),fun i _=>n≤i⟩
theorem qx {P:Program} {w:World} {K:PySem.W.Frag} {tg:Expr} (a it:Addr):Turn P w K tg (Itl K a) [it] it (fun i h=>h.IsListIter it a i) where
 mem:=by simp
 obj:=fun i h st b hb=>by
  have e:b=it:=by simpa using hb
  subst e
  obtain ⟨o,e,c,d⟩:=st
  exact ⟨o,e,fun v z=>by rw [d] at z; cases z⟩
 keep:=fun i h h' st k=>st.at fun o e=>k it (by simp) o e
 item:=by
  intro X hP hw hK hc i pins s σ H E I hf st hg
  subst hP hw hK
  obtain ⟨xs,x,hq,hx⟩:=hg
  obtain ⟨its,rv,p,hz⟩:=I.list hq
  obtain ⟨u,hu,ru⟩:=rv.get hx
  obtain ⟨f0,f1,f2,f3,f4,f5⟩:=hf it (by simp)
  refine wpAny_pyNext_list_item st p.isList (x:=u) (by simpa using hu) fun h' st' sb=>?_
  have I1:Inv X pins σ H { s with heap:=h' }:=I.turned (t':=s.toks) (fun b o hb e=>(sb.2 b hb).trans e) f0 f1 f3 f4 f5
  obtain ⟨o,e,c,d⟩:=id st'
  exact ⟨u,rfl,mx (s:={ s with heap:=h' }) e c d (by decide) ⟨x,H,I1,ru,⟨rfl,fun ys hy=>by rw [I.list_inj hy hq]; exact hx⟩,st',fun b hb=>(hf b hb).1⟩⟩
 done:=by
  intro X hP hw hK hc i pins s σ H E I hf st hg
  subst hP hw hK
  obtain ⟨xs,hq,hx⟩:=hg
  obtain ⟨its,rv,p,hz⟩:=I.list hq
  obtain ⟨f0,f1,f2,f3,f4,f5⟩:=hf it (by simp)
  have hl:=rv.length
  exact wpAny_pyNext_list_end (I.ok.hd hc) st p.isList (by simp; omega) fun h' eb=>⟨rfl,I.turned (t':=s.toks) (fun b o hb e=>eb b o hb e) f0 f1 f3 f4 f5⟩
 self:=fun _ _ _ _ _ st h=>wpAny_pyIter_listiter st h
theorem pd {P:Program} {w:World} {K:PySem.W.Frag} {tg:Expr} (a it:Addr):Turn P w K tg (Itt K a) [it] it (fun i h=>h.IsTupleIter it a i) where
 mem:=by simp
 obj:=fun i h st b hb=>by
  have e:b=it:=by simpa using hb
  subst e
  obtain ⟨o,e,c,d⟩:=st
  exact ⟨o,e,fun v z=>by rw [d] at z; cases z⟩
 keep:=fun i h h' st k=>st.at fun o e=>k it (by simp) o e
 item:=by
  intro X hP hw hK hc i pins s σ H E I hf st hg
  subst hP hw hK
  obtain ⟨xs,x,hq,hx⟩:=hg
  obtain ⟨its,rv,p,hz⟩:=I.tuple hq
  obtain ⟨u,hu,ru⟩:=rv.get hx
  obtain ⟨f0,f1,f2,f3,f4,f5⟩:=hf it (by simp)
  refine wpAny_pyNext_tuple_item st (show s.heap.IsTuple a its.toArray from p) (x:=u) (by simpa using hu) fun h' st' sb=>?_
  have I1:Inv X pins σ H { s with heap:=h' }:=I.turned (t':=s.toks) (fun b o hb e=>(sb.2 b hb).trans e) f0 f1 f3 f4 f5
  obtain ⟨o,e,c,d⟩:=id st'
  exact ⟨u,rfl,mx (s:={ s with heap:=h' }) e c d (by decide) ⟨x,H,I1,ru,⟨rfl,fun ys hy=>by rw [I.tuple_inj hy hq]; exact hx⟩,st',fun b hb=>(hf b hb).1⟩⟩
 done:=by
  intro X hP hw hK hc i pins s σ H E I hf st hg
  subst hP hw hK
  obtain ⟨xs,hq,hx⟩:=hg
  obtain ⟨its,rv,p,hz⟩:=I.tuple hq
  obtain ⟨f0,f1,f2,f3,f4,f5⟩:=hf it (by simp)
  have hl:=rv.length
  exact wpAny_pyNext_tuple_end (I.ok.hd hc) st (show s.heap.IsTuple a its.toArray from p) (by simp; omega) fun h' eb=>⟨rfl,I.turned (t':=s.toks) (fun b o hb e=>eb b o hb e) f0 f1 f3 f4 f5⟩
 self:=fun _ _ _ _ _ st h=>wpAny_pyIter_tupleiter st h
theorem pf {P:Program} {w:World} {K:PySem.W.Frag} {tg:Expr} (it:Addr) (lo:Int) (n:Nat):Turn P w K tg (Itr lo n) [it] it (fun i h=>IsRangeIter h it (lo+(i:Nat) * 1) ((n:Int) - (i:Nat)) 1) where
 mem:=by simp
 obj:=fun i h st b hb=>by
  have e:b=it:=by simpa using hb
  subst e
  exact ⟨_,st,fun v z=>by
   have z':Data.fields _=Data.cell v:=z
   cases z'⟩
 keep:=fun i h h' st k=>k it (by simp) _ st
 item:=by
  intro X hP hw hK hc i pins s σ H E I hf st hg
  subst hP hw hK
  obtain ⟨f0,f1,f2,f3,f4,f5⟩:=hf it (by simp)
  have W:=Walks.range (prog:=X.prog) (w:=X.w) (I.ok.hd hc) it lo 1 n
  refine W.item i s _ _ hg st fun v h' tk hv st' kk=>?_
  obtain ⟨t,rfl⟩:=hv
  have I1:Inv X pins σ H { s with heap:=h',toks:=tk }:=I.turned (fun b o hb e=>kk b o (by simpa using hb) e) f0 f1 f3 f4 f5
  refine ⟨_,rfl,mx (s:={ s with heap:=h',toks:=tk }) (n:="range_iterator") st' rfl rfl (by decide) ⟨.int (lo+i),H,I1,⟨t,?_⟩,⟨rfl,rfl⟩,st',fun b hb=>(hf b hb).1⟩⟩
  rw [Int.mul_one]
 done:=by
  intro X hP hw hK hc i pins s σ H E I hf st hg
  subst hP hw hK
  obtain ⟨f0,f1,f2,f3,f4,f5⟩:=hf it (by simp)
  exact wpAny_pyNext_range_end (I.ok.hd hc) st (by have:n≤i:=hg; omega) fun h' eb=>⟨rfl,I.turned (t':=s.toks) (fun b o hb e=>eb b o hb e) f0 f1 f3 f4 f5⟩
 self:=fun _ _ _ _ _ st h=>wpAny_pyIter_rangeiter st h
end L2
namespace L2
open PySem PySem.Spec PyProof.Rows
section
variable {X:Cx} {tg:Expr}
theorem sx {pins:List (Addr × Obj)} {σ:St} {H:Hp} {s:Shared} {R:It→Hp→Prop} {E:Value→Shared→Prop} {lo hi:Int} {t u v:Tok} {tk:Nat} (I:Inv X pins σ H s) (h1:-(2 ^ 62)≤lo) (h2:lo < 2 ^ 62) (h3:-(2 ^ 62)≤hi) (h4:hi < 2 ^ 62)
  (q:R (Itr lo (hi - lo).toNat) H):wpAny (model X.prog X.w) X.A (pyIter (.ref s.heap.objs.size)) (PIE X pins σ tg R) E { s with heap:=s.heap.push { cls:=.type "range",data:=.fields #[.int lo t,.int hi u,.int 1 v] },toks:=tk }:=by
 refine wpAny_pyIter_range (IsRange.new ..) (small_one h1 h2 h3 h4) ?_
 have I1:Inv X pins σ H { s with heap:=s.heap.push { cls:=.type "range",data:=.fields #[.int lo t,.int hi u,.int 1 v] },toks:=tk }:=I.kept fun b o e=>Heap.get?_push_of_some _ e
 refine ⟨(s.heap.push { cls:=.type "range",data:=.fields #[.int lo t,.int hi u,.int 1 v] }).objs.size,[(s.heap.push { cls:=.type "range",data:=.fields #[.int lo t,.int hi u,.int 1 v] }).objs.size],_,_,H,rfl,
  I1.kept (t':=tk) fun b o e=>Heap.get?_push_of_some _ e,pf _ lo (hi - lo).toNat,?_,fun b hb=>?_,q⟩
 ·have e1:lo+((0:Nat):Int) * 1=lo:=by simp
  have e2:(((hi - lo).toNat:Nat):Int) - ((0:Nat):Int)=Builtin.Range.rangeSize lo hi 1:=by rw [rangeSize_one]; split <;> omega
  show IsRangeIter _ _ (lo+((0:Nat):Int) * 1) ((((hi - lo).toNat:Nat):Int) - ((0:Nat):Int)) 1
  rw [e1,e2]
  exact Heap.get?_push_size _ rfl
 ·have e:b=(s.heap.push { cls:=.type "range",data:=.fields #[.int lo t,.int hi u,.int 1 v] }).objs.size:=by simpa using hb
  subst e
  exact I1.fpOk (Nat.le_refl _) (I1.hok.fresh (Nat.le_refl _))
def FX (ta:TA):TI:=fun σ H R=>ta σ H fun vs H1=>∃ j:Int,vs=[.int j]∧-(2 ^ 62)≤j∧j < 2 ^ 62∧R (Itr 0 j.toNat) H1
theorem qJ {a:Expr} {ta:TA} {p pos:Pos} (hg:Gl X "range") (hm:X.mg "range"=none) (ha:PA X [a] ta) (hs:starEach [a] X.env=[(false,eval a X.env)]:=by rfl):PI X tg (.Call (.Name "range" p) [a] [] pos) (FX ta):=by
 intro pins s σ H R I h
 refine Call_ (iy I hg hm boot_range (PyProof.Rows.callWith_type1 (thn (ha pos pins s σ H _ I h) fun us s1 ⟨vs,H1,I1,r1,q1⟩=>?_) hs rfl))
 obtain ⟨j,e,q1,q2,q⟩:=q1
 subst e
 cases r1 with
 | cons r rr =>
  cases rr
  obtain ⟨t,rfl⟩:=r
  exact call_range_1 (sx I1 (by omega) (by omega) q1 q2 (by simpa using q))
def DD (wi:TI) (g:TG) (tb:TS):TS:=fun D σ H=>wi σ H fun J H1=>∃ W:Nat→Nat→St→Hp→Prop,(∃ m,W 0 m σ H1)∧∀ i m σ H,W i m σ H →
 (J.stop i H∧D.nx σ H)∨(J.go i H∧∃ N:St→Hp→Prop,(∀ σ' H',N σ' H'→∃ m',m' < m∧W (i+1) m' σ' H')∧∀ x H',J.yld i H x H'→g x σ H' fun σ2 H2=>tb { D with nx:=N,ct:=N,bk:=D.nx } σ2 H2)
def ir (fp:List Addr) (h:Heap):List (Addr × Obj):=fp.filterMap fun b=>(h.get? b).map fun o=>(b,o)
theorem eR {fp:List Addr} {h:Heap} {b:Addr} {o:Obj} (hb:b∈fp) (e:h.get? b=some o):(b,o)∈ir fp h:=List.mem_filterMap.mpr ⟨b,hb,by rw [e]; rfl⟩
theorem qN {fp:List Addr} {h:Heap} {p:Addr × Obj} (hp:p∈ir fp h):p.1∈fp∧h.get? p.1=some p.2:=by
 obtain ⟨b,hb,e⟩:=List.mem_filterMap.mp hp
 cases q:h.get? b with
 | none=>rw [q] at e; cases e
 | some o =>
  rw [q] at e
  have e':(b,o)=p:=Option.some.inj e
  subst e'
  exact ⟨hb,q⟩
theorem Inv.pinned {pins:List (Addr × Obj)} {σ:St} {H:Hp} {s:Shared} {fp:List Addr} (I:Inv X pins σ H s) (hf:∀ b∈fp,fA X pins H b) (ho:∀ b∈fp,∃ o,s.heap.get? b=some o∧∀ v,o.data≠.cell v):Inv X (pins++ir fp s.heap) σ H s :=
 I.pins_of fun p hp=>(List.mem_append.mp hp).elim (fun z=>I.pin p (List.mem_append_right _ z)) fun z=>by
  obtain ⟨hb,e⟩:=qN z
  obtain ⟨f0,f1,f2,_⟩:=hf p.1 hb
  obtain ⟨o,e',d⟩:=ho p.1 hb
  rw [e] at e'; cases e'
  exact ⟨e,f0,f1,f2,d⟩
theorem Inv.unpinned {pins pl:List (Addr × Obj)} {σ:St} {H:Hp} {s:Shared} (I:Inv X (pins++pl) σ H s):Inv X pins σ H s:=I.pins_of fun p hp=>I.pin p (List.mem_append_right _ (List.mem_append_left _ hp))
theorem DW {iter:Expr} {body:List Stmt} {wi:TI} {g:TG} {tb:TS} {pos:Pos} (hp:PassesOwn (model X.prog X.w) X.A X.env X.xe) (hc:X.calm=true) (hi:PI X tg iter wi) (hg:PG X tg g) (hb:PSs X body tb)
  (hs:∀ x,foldedSetIterable iter X.env x=pure x:=by intro _; rfl):PS X (.For tg iter body [] pos) (DD wi g tb):=by
 intro pins s σ H D I h
 refine wpAny_For (thn (hi pins s σ H _ I h) fun v s1 h1=>thn h1 fun itv s2 h2=>?_) hs
 obtain ⟨it,fp,tn,J,H2,e,I2,T,st2,f2,W,⟨m0,w0⟩,turn⟩:=h2
 subst e
 have stat:∀ {H':Hp},(∀ b∈fp,H' b=none)→∀ b∈fp,fA X pins H' b:=fun hn b hb=>⟨hn b hb,(f2 b hb).2⟩
 refine codeAny_forLoop_any (fun n s'=>∃ i σ' H',Inv X pins σ' H' s'∧tn i s'.heap∧(∀ b∈fp,H' b=none)∧W i n σ' H') ?_ m0 ⟨0,σ,H2,I2,st2,fun b hb=>(f2 b hb).1,w0⟩
 rintro n s3 ⟨i,σ3,H3,I3,st3,fr3,w3⟩
 rcases turn i n σ3 H3 w3 with ⟨stop,qn⟩ | ⟨go,N,hN,step⟩
 ·refine wpAny_passesOwn hp (thn (T.done X rfl rfl rfl hc i pins s3 σ3 H3 X.xe I3 (stat fr3) st3 stop) fun r s4 ⟨hr,I4⟩=>?_)
  subst hr
  exact wpAny_execs_nil ⟨σ3,H3,I4,qn⟩
 ·refine wpAny_passesOwn hp (thn (T.item X rfl rfl rfl hc i pins s3 σ3 H3 X.xe I3 (stat fr3) st3 go) fun r s4 ⟨u,hr,h4⟩=>?_)
  subst hr
  refine wpAny_passesOwn hp (thn h4 fun _ s5 ⟨x,H5,I5,r5,y5,st5,fr5⟩=>?_)
  have I5':=I5.pinned (stat fr5) (T.obj _ _ st5)
  refine wpAny_passesOwn hp (thn (hg _ s5 σ3 H5 x u _ I5' r5 (step x H5 y5)) fun _ s6 ⟨σ6,H6,I6,q6⟩=>?_)
  refine wpAny_passesOwn hp (thn (hb _ s6 σ6 H6 _ I6 q6) fun f s7 q7=>?_)
  have again:∀ {σ7:St} {H7:Hp},Inv X (pins++ir fp s5.heap) σ7 H7 s7→N σ7 H7→∃ m,m < n∧∃ i σ' H',Inv X pins σ' H' s7∧tn i s7.heap∧(∀ b∈fp,H' b=none)∧W i m σ' H':=fun {σ7 H7} I7 n7=>by
   obtain ⟨m',hm,w7⟩:=hN σ7 H7 n7
   refine ⟨m',hm,i+1,σ7,H7,I7.unpinned,T.keep _ _ _ st5 fun b hb o e=>(I7.pin (b,o) (List.mem_append_right _ (List.mem_append_right _ (eR hb e)))).1,fun b hb=>?_,w7⟩
   obtain ⟨o,e,d⟩:=T.obj _ _ st5 b hb
   exact (I7.pin (b,o) (List.mem_append_right _ (List.mem_append_right _ (eR hb e)))).2.1
  cases f with
  | next=>obtain ⟨σ7,H7,I7,n7⟩:=q7; exact again I7 n7
  | cont=>obtain ⟨σ7,H7,I7,n7⟩:=q7; exact again I7 n7
  | brk=>obtain ⟨σ7,H7,I7,q7⟩:=q7; exact ⟨σ7,H7,I7.unpinned,q7⟩
  | ret v=>obtain ⟨x7,σ7,H7,I7,r7,q7⟩:=q7; exact ⟨x7,σ7,H7,I7.unpinned,r7,q7⟩
end
end L2
namespace L2
open PySem PySem.Spec PyProof.Rows
abbrev R2:=V→V→Hp→VK→Prop
def OpR (X:Cx) (f:Value→Value→Sem Value) (r:R2):Prop :=
 ∀ (pins:List (Addr × Obj)) (s:Shared) (σ:St) (H:Hp) (x y:V) (v u:Value) (Q:VK),Inv X pins σ H s→RelV x v→RelV y u→r x y H Q →
  wpAny (model X.prog X.w) X.A (f v u) (EP X pins σ Q) X.xe s
def UnR (X:Cx) (f:Value→Sem Value) (r:V→Hp→VK→Prop):Prop :=
 ∀ (pins:List (Addr × Obj)) (s:Shared) (σ:St) (H:Hp) (x:V) (v:Value) (Q:VK),Inv X pins σ H s→RelV x v→r x H Q →
  wpAny (model X.prog X.w) X.A (f v) (EP X pins σ Q) X.xe s
def CallR (X:Cx) (f:Value) (r:List V→Hp→VK→Prop):Prop :=
 ∀ (pins:List (Addr × Obj)) (s:Shared) (σ:St) (H:Hp) (xs:List V) (us:List Value) (Q:VK),Inv X pins σ H s→Vals xs us→r xs H Q →
  wpAny (model X.prog X.w) X.A (call f us) (EP X pins σ Q) X.xe s
def GT (X:Cx) (r:V→Hp→(Bool→Hp→Prop)→Prop):Prop :=
 ∀ (pins:List (Addr × Obj)) (s:Shared) (σ:St) (H:Hp) (x:V) (v:Value) (Q:Bool→Hp→Prop),Inv X pins σ H s→RelV x v→r x H Q →
  wpAny (model X.prog X.w) X.A (truthy v) (TP X pins σ Q) X.xe s
def tOp (r:R2) (ta tb:TE):TE:=fun σ H Q=>ta σ H fun x H1=>tb σ H1 fun y H2=>r x y H2 Q
def tUn (r:V→Hp→VK→Prop) (ta:TE):TE:=fun σ H Q=>ta σ H fun x H1=>r x H1 Q
def rI (C:Int→Int→Prop) (g:Int→Int→V):R2:=fun x y H Q=>∃ i j,x=.int i∧y=.int j∧C i j∧Q (g i j) H
def rI0 (g:Int→Int→V):R2:=fun x y H Q=>∃ i j,x=.int i∧y=.int j∧Q (g i j) H
def rU (g:Int→V):V→Hp→VK→Prop:=fun x H Q=>∃ i,x=.int i∧Q (g i) H
section
variable {X:Cx} {a b c:Expr} {ta tb tc:TE} {pos:Pos}
theorem ub (ha:PE X a ta) (hb:PE X b tb) {pins:List (Addr × Obj)} {s:Shared} {σ:St} {H:Hp} {R:V→V→Hp→Prop} (I:Inv X pins σ H s)
  (h:ta σ H fun x H1=>tb σ H1 fun y H2=>R x y H2) {Q:Value→Shared→Prop} {f:Value→Value→Sem Value}
  (hf:∀ v u s2 x y H2,Inv X pins σ H2 s2→RelV x v→RelV y u→R x y H2→wpAny (model X.prog X.w) X.A (f v u) Q X.xe s2) :
  wpAny (model X.prog X.w) X.A (eval a X.env) (fun v s₁=>wpAny (model X.prog X.w) X.A (eval b X.env) (fun u s₂=>wpAny (model X.prog X.w) X.A (f v u) Q X.xe s₂) X.xe s₁) X.xe s:=by
 refine thn (ha pins s σ H _ I h) fun v s1 ⟨x,H1,I1,r1,q1⟩=>?_
 refine thn (hb pins s1 σ H1 _ I1 q1) fun u s2 ⟨y,H2,I2,r2,q2⟩=>?_
 exact hf v u s2 x y H2 I2 r1 r2 q2
theorem FN {op:Operator} {r:R2} (ho:OpR X (binaryOp op) r) (ha:PE X a ta) (hb:PE X b tb):PE X (.BinOp a op b pos) (tOp r ta tb):=by
 intro pins s σ H Q I h
 exact wpAny_BinOp (ub ha hb I h fun v u s2 x y H2 I2 rx ry q=>ho pins s2 σ H2 x y v u Q I2 rx ry q)
theorem FK {op:UnaryOp} {r:V→Hp→VK→Prop} (ho:UnR X (unaryOp op) r) (ha:PE X a ta):PE X (.UnaryOp op a pos) (tUn r ta):=by
 intro pins s σ H Q I h
 exact UnaryOp_ (thn (ha pins s σ H _ I h) fun v s1 ⟨x,H1,I1,r1,q1⟩=>ho pins s1 σ H1 x v Q I1 r1 q1)
theorem opI {f:Value→Value→Sem Value} {C:Int→Int→Prop} {g:Int→Int→Int}
  (rule:∀ (i j:Int) (t u:Tok) (s:Shared) (Q:Value→Shared→Prop) (E:Value→Shared→Prop),C i j→Q (.int (g i j) s.toks) { s with toks:=s.toks+1 }→wpAny (model X.prog X.w) X.A (f (.int i t) (.int j u)) Q E s) :
  OpR X f (rI C fun i j=>.int (g i j)):=by
 intro pins s σ H x y v u Q I rx ry h
 obtain ⟨i,j,rfl,rfl,hc,q⟩:=h
 obtain ⟨t,rfl⟩:=rx
 obtain ⟨t',rfl⟩:=ry
 exact rule i j t t' s _ _ hc ⟨.int (g i j),H,I.tok _,⟨_,rfl⟩,q⟩
theorem D5 {f:Value→Value→Sem Value} {g:Int→Int→Int}
  (rule:∀ (i j:Int) (t u:Tok) (s:Shared) (Q:Value→Shared→Prop) (E:Value→Shared→Prop),Q (.int (g i j) s.toks) { s with toks:=s.toks+1 }→wpAny (model X.prog X.w) X.A (f (.int i t) (.int j u)) Q E s) :
  OpR X f (rI0 fun i j=>.int (g i j)):=by
 intro pins s σ H x y v u Q I rx ry h
 obtain ⟨i,j,rfl,rfl,q⟩:=h
 obtain ⟨t,rfl⟩:=rx
 obtain ⟨t',rfl⟩:=ry
 exact rule i j t t' s _ _ ⟨.int (g i j),H,I.tok _,⟨_,rfl⟩,q⟩
theorem pz {f:Value→Value→Sem Value} {g:Int→Int→Bool}
  (rule:∀ (i j:Int) (t u:Tok) (s:Shared) (Q:Value→Shared→Prop) (E:Value→Shared→Prop),Q (.bool (g i j)) s→wpAny (model X.prog X.w) X.A (f (.int i t) (.int j u)) Q E s) :
  OpR X f (rI0 fun i j=>.bl (g i j)):=by
 intro pins s σ H x y v u Q I rx ry h
 obtain ⟨i,j,rfl,rfl,q⟩:=h
 obtain ⟨t,rfl⟩:=rx
 obtain ⟨t',rfl⟩:=ry
 exact rule i j t t' s _ _ ⟨.bl (g i j),H,I,rfl,q⟩
def eQ (i j:Int):Prop:=0 < j∧j < 1073741824
def ic (i j:Int):Prop:=0≤j∧j≤1000000∧i.natAbs < 2 ^ 64
def CMul (i j:Int):Prop:=(-(2 ^ 64) < i∧i < 2 ^ 64)∨(-(2 ^ 64) < j∧j < 2 ^ 64)
theorem CMul.ok {i j:Int} (h:CMul i j):IntMulOk i j:=by
 rcases h with ⟨h1,h2⟩ | ⟨h1,h2⟩
 ·exact .of_left (intBits_le_64 h1 h2)
 ·exact .of_right (intBits_le_64 h1 h2)
theorem op_add:OpR X (binaryOp .Add) (rI0 fun i j=>.int (i+j)):=D5 fun _ _ _ _ _ _ _ q=>add_int q
theorem op_sub:OpR X (binaryOp .Sub) (rI0 fun i j=>.int (i - j)):=D5 fun _ _ _ _ _ _ _ q=>sub_int q
theorem op_mul:OpR X (binaryOp .Mult) (rI CMul fun i j=>.int (i * j)):=opI fun _ _ _ _ _ _ _ hc q=>mul_int q hc.ok
theorem op_fdiv:OpR X (binaryOp .FloorDiv) (rI eQ fun i j=>.int (i / j)):=opI fun i j _ _ _ _ _ hc q=>by
 have h1:(0:Int) < j:=hc.1
 have h2:j < 1073741824:=hc.2
 exact floordiv_int (by omega) (by rw [Int.fdiv_eq_ediv_of_nonneg i (by omega)]; exact q) (.inl (PyProof.noPylong_small (by omega)))
theorem op_mod:OpR X (binaryOp .Mod) (rI (fun _ j=>0 < j) fun i j=>.int (i % j)):=opI fun i j _ _ _ _ _ hc q=>by
 have h1:(0:Int) < j:=hc
 exact mod_int' (by omega) (by rw [Int.fmod_eq_emod_of_nonneg i (by omega)]; exact q)
theorem op_pow:OpR X (binaryOp .Pow) (rI ic fun i j=>.int (i ^ j.toNat)):=opI fun _ _ _ _ _ _ _ hc q=>pow_int_small hc.1 hc.2.1 hc.2.2 q
theorem unI {f:Value→Sem Value} {g:Int→Int}
  (rule:∀ (i:Int) (t:Tok) (s:Shared) (Q:Value→Shared→Prop) (E:Value→Shared→Prop),Q (.int (g i) s.toks) { s with toks:=s.toks+1 }→wpAny (model X.prog X.w) X.A (f (.int i t)) Q E s) :
  UnR X f (rU fun i=>.int (g i)):=by
 intro pins s σ H x v Q I rx h
 obtain ⟨i,rfl,q⟩:=h
 obtain ⟨t,rfl⟩:=rx
 exact rule i t s _ _ ⟨.int (g i),H,I.tok _,⟨_,rfl⟩,q⟩
theorem un_neg:UnR X (unaryOp .USub) (rU fun i=>.int (-i)):=unI fun _ _ _ _ _ q=>neg_int q
end
section
variable {X:Cx} {a b c:Expr} {ta tb tc:TE} {pos:Pos}
theorem rF {pins:List (Addr × Obj)} {σ:St} {H:Hp} {s:Shared} {Q:VK} {k k':Bool} (I:Inv X pins σ H s) (q:Q (.bl k) H) (e:k=k'):EP X pins σ Q (.bool k') s:=by
 subst e
 exact ⟨.bl k,H,I,rfl,q⟩
theorem op_lt:OpR X (compareOp .Lt) (rI0 fun i j=>.bl (decide (i < j))):=pz fun _ _ _ _ _ _ _ q=>lt_int q
theorem op_le:OpR X (compareOp .LtE) (rI0 fun i j=>.bl (decide (i≤j))):=pz fun _ _ _ _ _ _ _ q=>le_int q
theorem op_gt:OpR X (compareOp .Gt) (rI0 fun i j=>.bl (decide (j < i))):=pz fun _ _ _ _ _ _ _ q=>gt_int q
theorem op_ge:OpR X (compareOp .GtE) (rI0 fun i j=>.bl (decide (j≤i))):=pz fun _ _ _ _ _ _ _ q=>ge_int q
theorem op_isN:OpR X (compareOp .Is) (fun x y H Q=>y=.non∧Q (.bl (decide (x=.non))) H):=by
 intro pins s σ H x y v u Q I rx ry h
 obtain ⟨rfl,q⟩:=h
 cases ry
 refine is_none_gen (rF I q ?_)
 cases x <;> first
  | (cases rx; rfl)
  | (obtain ⟨t,rfl⟩:=rx; rfl)
theorem op_notN:OpR X (compareOp .IsNot) (fun x y H Q=>y=.non∧Q (.bl (!decide (x=.non))) H):=by
 intro pins s σ H x y v u Q I rx ry h
 obtain ⟨rfl,q⟩:=h
 cases ry
 refine isnot_none_gen (rF I q ?_)
 cases x <;> first
  | (cases rx; rfl)
  | (obtain ⟨t,rfl⟩:=rx; rfl)
theorem a7 (b:Expr) {op:CmpOp} (h:op≠.In:=by decide) (h2:op≠.NotIn:=by decide):behindInMarks op b=false:=by
 have e1:(op == CmpOp.In)=false:=by cases op <;> first | rfl | exact absurd rfl h
 have e2:(op == CmpOp.NotIn)=false:=by cases op <;> first | rfl | exact absurd rfl h2
 cases b <;> simp [behindInMarks,e1,e2]
theorem Az {op:CmpOp} {r:R2} (ho:OpR X (compareOp op) r) (ha:PE X a ta) (hb:PE X b tb) (hm:behindInMarks op b=false):PE X (.Compare a [op] [b] pos) (tOp r ta tb):=by
 intro pins s σ H Q I h
 exact wpAny_Compare1 (ub ha hb I h fun v u s2 x y H2 I2 rx ry q=>ho pins s2 σ H2 x y v u Q I2 rx ry q) hm
def FD (t:TE):TT:=fun σ H Q=>t σ H fun x H'=>∃ k,x=.bl k∧Q k H'
theorem An {op:CmpOp} {r:R2} (ho:OpR X (compareOp op) r) (ha:PE X a ta) (hb:PE X b tb) (hm:behindInMarks op b=false):PT X (.Compare a [op] [b] pos) (FD (tOp r ta tb)):=by
 intro pins s σ H Q I h
 refine wpAny_isTrue_Compare1 (thn (ha pins s σ H _ I h) fun v s1 ⟨x,H1,I1,r1,q1⟩=>thn (hb pins s1 σ H1 _ I1 q1) fun u s2 ⟨y,H2,I2,r2,q2⟩ =>
  thn (ho pins s2 σ H2 x y v u _ I2 r1 r2 q2) fun c s3 ⟨z,H3,I3,r3,k,e,q3⟩=>?_) hm
 subst e
 cases r3
 exact wpAny_truthy_bool ⟨H3,I3,q3⟩
def GS (K:PySem.W.Frag) (x:V) (H:Hp) (k:Bool):Prop :=
 match x with
 | .non=>k=false
 | .bl b=>k=b
 | .int i=>k=(i != 0)
 | .str y=>y.length≤sizeLine∧k=((y.length:Int) != 0)
 | .byt y=>y.size≤sizeLine∧k=((y.size:Int) != 0)
 | .ref p=>(∃ xs,SqL K H p xs∧k=!xs.isEmpty)∨(∃ xs,SqT K H p xs∧k=!xs.isEmpty)∨∃ kvs,H p=some (.dK kvs)∧k=!kvs.isEmpty
 | _=>False
theorem gk:(sizeLine:Nat) < 2 ^ 63:=by rw [sizeLine_eq]; decide
theorem pv:OpR X (binaryOp .Add) (fun x y H Q=>∃ i j,x=.str i∧y=.str j∧i.length+j.length≤sizeLine∧Q (.str (i++j)) H):=by
 intro pins s σ H x y v u Q I rx ry h
 obtain ⟨i,j,rfl,rfl,hz,q⟩:=h
 obtain ⟨t,rfl⟩:=rx
 obtain ⟨t',rfl⟩:=ry
 exact add_str (fun t' tk=>⟨.str (i++j),H,I.tok _,⟨_,rfl⟩,q⟩) hz
theorem da {x:V} {us:List Value} (r:Vals [x] us):∃ u,us=[u]∧RelV x u:=by
 cases r with
 | cons r1 r2=>cases r2; exact ⟨_,rfl,r1⟩
theorem pc {x y:V} {us:List Value} (r:Vals [x,y] us):∃ u w',us=[u,w']∧RelV x u∧RelV y w':=by
 cases r with
 | cons r1 r2 =>
  cases r2 with
  | cons r3 r4=>cases r4; exact ⟨_,_,rfl,r1,r3⟩
theorem call_abs:CallR X (.builtin "abs") (fun xs H Q=>∃ i,xs=[.int i]∧Q (.int (if i < 0 then -i else i)) H):=by
 intro pins s σ H xs us Q I r h
 obtain ⟨i,rfl,q⟩:=h
 obtain ⟨u,rfl,t,rfl⟩:=da r
 exact call_abs_int fun u tk=>⟨.int (if i < 0 then -i else i),H,I.tok _,⟨_,rfl⟩,q⟩
theorem rW (hc:X.calm=true):CallR X (.builtin "max") (fun xs H Q=>∃ i j,xs=[.int i,.int j]∧Q (.int (if j > i then j else i)) H):=by
 intro pins s σ H xs us Q I r h
 obtain ⟨i,j,rfl,q⟩:=h
 obtain ⟨u,w',rfl,⟨t,rfl⟩,⟨t',rfl⟩⟩:=pc r
 refine max_two_ints (I.ok.hd hc) fun h' tk k=>⟨_,H,I.kept k,?_,q⟩
 by_cases hj:j > i
 ·rw [if_pos hj,if_pos hj]; exact ⟨_,rfl⟩
 ·rw [if_neg hj,if_neg hj]; exact ⟨_,rfl⟩
theorem rV (hc:X.calm=true):CallR X (.builtin "min") (fun xs H Q=>∃ i j,xs=[.int i,.int j]∧Q (.int (if j < i then j else i)) H):=by
 intro pins s σ H xs us Q I r h
 obtain ⟨i,j,rfl,q⟩:=h
 obtain ⟨u,w',rfl,⟨t,rfl⟩,⟨t',rfl⟩⟩:=pc r
 refine min_two_ints (I.ok.hd hc) fun h' tk k=>⟨_,H,I.kept k,?_,q⟩
 by_cases hj:j < i
 ·rw [if_pos hj,if_pos hj]; exact ⟨_,rfl⟩
 ·rw [if_neg hj,if_neg hj]; exact ⟨_,rfl⟩
theorem call_int1:CallR X (.type "int") (fun xs H Q=>(∃ i,xs=[.int i]∧Q (.int i) H)∨∃ k,xs=[.bl k]∧Q (.int (if k then 1 else 0)) H):=by
 intro pins s σ H xs us Q I r h
 rcases h with ⟨i,rfl,q⟩ | ⟨k,rfl,q⟩
 ·obtain ⟨u,rfl,t,rfl⟩:=da r
  exact call_int_int ⟨.int i,H,I,⟨_,rfl⟩,q⟩
 ·obtain ⟨u,rfl,r1⟩:=da r
  cases r1
  exact call_int_bool ⟨.int (if k then 1 else 0),H,I.tok _,⟨_,rfl⟩,q⟩
def FB (K:PySem.W.Frag) (x:V) (H:Hp) (n:Nat):Prop :=
 match x with
 | .str y=>y.length≤sizeLine∧n=y.length
 | .byt y=>y.size≤sizeLine∧n=y.size
 | .ref p=>(∃ xs,SqL K H p xs∧n=xs.length)∨∃ xs,SqT K H p xs∧n=xs.length
 | _=>False
theorem t7:CallR X (.builtin "len") (fun xs H Q=>∃ x n,xs=[x]∧FB X.K x H n∧Q (.int n) H):=by
 intro pins s σ H xs us Q I r h
 obtain ⟨x,n,rfl,e,q⟩:=h
 obtain ⟨u,rfl,rx⟩:=da r
 have hl:=gk
 have hs:sizeLine=16777216:=sizeLine_eq
 cases x with
 | str y =>
  obtain ⟨t,rfl⟩:=rx
  obtain ⟨hy,e'⟩:y.length≤sizeLine∧n=y.length:=e
  subst e'
  exact len_str (by omega) ⟨.int _,H,I.tok _,⟨_,rfl⟩,q⟩
 | byt y =>
  obtain ⟨t,rfl⟩:=rx
  obtain ⟨hy,e'⟩:y.size≤sizeLine∧n=y.size:=e
  subst e'
  exact PySem.W.len_bytes (by omega) ⟨.int _,H,I.tok _,⟨_,rfl⟩,q⟩
 | ref p =>
  cases rx
  have e':(∃ xs,SqL X.K H p xs∧n=xs.length)∨∃ xs,SqT X.K H p xs∧n=xs.length:=e
  rcases e' with ⟨xs,hx,e'⟩ | ⟨xs,hx,e'⟩
  ·subst e'
   obtain ⟨its,r',pl,hz⟩:=I.list hx
   have hlen:=r'.length
   exact Calls.call_len_list pl.isList (by simp only [List.size_toArray]; omega) ⟨.int xs.length,H,I.tok _,⟨_,by simp only [List.size_toArray]; rw [hlen]⟩,q⟩
  ·subst e'
   obtain ⟨its,r',pl,hz⟩:=I.tuple hx
   have hlen:=r'.length
   exact len_tuple pl (by simp only [List.size_toArray]; omega) ⟨.int xs.length,H,I.tok _,⟨_,by simp only [List.size_toArray]; rw [hlen]⟩,q⟩
 | _=>exact (show False from e).elim
end
end L2
namespace L2
open PySem PySem.Spec PyProof.Rows
structure ObjM (h:Heap) (x dx C:Addr) (mA:Str→Option Value):Prop where
 obj:h.get? x=some (PySem.W.instObj C dx)
 ns:h.Ns1 dx mA
 ne:dx≠x
theorem qT {h:Heap} {dx:Addr} {mA:Str→Option Value} (n:h.Ns1 dx mA):∃ od,h.get? dx=some od∧∀ name,PySem.W.lookIn name od=some (mA name):=by
 obtain ⟨o,es,ep,ho,hd,hk,_,hm⟩:=n
 refine ⟨o,ho,fun name=>?_⟩
 have e:=hm name
 unfold nsFind findBy at e
 rw [← Array.find?_toList] at e
 unfold PySem.W.lookIn
 rw [hd]
 dsimp only
 split
 ·rename_i y q
  rw [q] at e
  exact congrArg some e
 ·rename_i q
  rw [q] at e
  have a:es.toList.any (·.refKey)=false:=by
   rw [List.any_eq_false]
   intro y hy
   obtain ⟨z,t,hkey⟩:=hk y (Array.mem_toList_iff.mp hy)
   simp [DictEntry.refKey,hkey]
  have a':¬ es.toList.any (·.refKey)=true:=by rw [a]; exact Bool.false_ne_true
  rw [if_neg a']
  exact congrArg some e
theorem ObjM.look {h:Heap} {x dx C:Addr} {mA:Str→Option Value} (I:ObjM h x dx C mA):∃ od,PySem.W.InstAt h x (PySem.W.instObj C dx) C (some od)∧∀ name,PySem.W.lookIn name od=some (mA name) :=
 let ⟨od,ho,hl⟩:=qT I.ns
 ⟨od,⟨I.obj,rfl,rfl,ho⟩,hl⟩
section
variable {prog:Program} {w:World} {A:Around} {E:Value→Shared→Prop} {s:Shared} {K:PySem.W.Frag} {x dx C f:Addr} {mA:Str→Option Value} {name:Str} {v:Value}
end
theorem RelO.some_of {v:V} {o:Option Value} (r:RelO (some v) o):∃ u,o=some u∧RelV v u:=by
 cases o with
 | none=>exact (show False from r).elim
 | some u=>exact ⟨u,rfl,r⟩
section
variable {P:Program} {w:World} {H H':Hp} {h h':Heap} {a C dx:Addr} {fs fs':List (Str × V)}
theorem AM (hok:HOk P w H h) (e:H a=some (.ins C dx fs)):∃ mA,ObjM h a dx C mA∧(∀ f,RelO (fs.lookup f) (mA f))∧PySem.Within mA (fs.map (·.1))∧fs.length≤1000∧H dx=some (.own a):=by
 obtain ⟨d,z,ne,ob,mA,n,r,q⟩:=(show ObjOk P w H h a (.ins C dx fs) from hok a _ e)
 exact ⟨mA,⟨ob,n,ne⟩,r,q,z,d⟩
end
structure Cls (K:PySem.W.Frag) (C:Addr):Prop where
 pg:PySem.W.plainGet K C Str.empty=true
 hd:PySem.W.hasDictIn K C=true
 po:PySem.W.plainOver K C=true
 sa:PySem.W.findIn K (.ref C) "__setattr__"=some (some (.builtin "object.__setattr__"))
theorem Cls.get {K:PySem.W.Frag} {C:Addr} (c:Cls K C) (f:Str):PySem.W.plainGet K C f=true:=c.pg
section
variable {X:Cx} {pins:List (Addr × Obj)} {σ:St} {H:Hp} {s:Shared} {a C dx:Addr} {fs:List (Str × V)} {f:Str} {v:V} {A:Around} {E:Value→Shared→Prop}
end
section
variable {X:Cx} {o e value:Expr} {f:Str} {pos pos' tpos:Pos} {ta tv:TE}
end
section
variable {X:Cx} {pins:List (Addr × Obj)} {σ:St} {H:Hp} {s:Shared} {A:Around} {E:Value→Shared→Prop} {Q:Value→Shared→Prop} {c:Value} {b:Bool}
inductive TyOf (K:PySem.W.Frag) (H:Hp):V→Value→Prop where
 | non:TyOf K H .non (.type "NoneType")
 | bl (x:Bool):TyOf K H (.bl x) (.type "bool")
 | int (i:Int):TyOf K H (.int i) (.type "int")
 | str (x:Str):TyOf K H (.str x) (.type "str")
 | flt (x:UInt64):TyOf K H (.flt x) (.type "float")
 | lst {a:Addr} {xs:List V} (e:H a=some (.lst xs)):TyOf K H (.ref a) (.type "list")
 | frz {a:Addr} {o:Obj} {xs:List V} (e:H a=some (.frz o (.lst xs))):TyOf K H (.ref a) (.type "list")
 | tup {a:Addr} {xs:List V} (e:H a=some (.tup xs)):TyOf K H (.ref a) (.type "tuple")
 | dK {a:Addr} {kvs:List (Key × V)} (e:H a=some (.dK kvs)):TyOf K H (.ref a) (.type "dict")
 | dT {a:Addr} {kvs:List (List Key × V)} (e:H a=some (.dT kvs)):TyOf K H (.ref a) (.type "dict")
 | ins {a C dx:Addr} {fs:List (Str × V)} (e:H a=some (.ins C dx fs)) (cl:Cls K C) (ha:PySem.W.findIn K (.ref C) "__class__"=some (some (.builtin "object.__class__")))
   (hn:PySem.W.specialIn K (.builtin "object.__class__") "__get__"=some (some (.builtin "getset_descriptor.__get__"))) (htk:PySem.W.takesIn K (.builtin "object.__class__")=some true)
   (hm:PySem.W.mroIn K C (.type "object")=some true):TyOf K H (.ref a) (.ref C)
theorem rg {x:V} {u t:Value} (I:Inv X pins σ H s) (rx:RelV x u) (ty:TyOf X.K H x t) (e:PySem.W.kitOne X.K t c=some b) (h:∀ tk,Q (.bool b) { s with toks:=tk }) :
  wpAny (model X.prog X.w) A (call (.builtin "isinstance") [u,c]) Q E s:=by
 cases ty with
 | non=>cases (show u=Value.none from rx); exact PySem.W.kia_one PySem.W.kitx_none I.kIn True.intro e (fun z=>nomatch z) h
 | bl y=>cases (show u=Value.bool y from rx); exact PySem.W.kia_one PySem.W.kitx_bool I.kIn True.intro e (fun z=>nomatch z) h
 | int i=>obtain ⟨t,q⟩:=(show ∃ t,u=Value.int i t from rx); cases q; exact PySem.W.kia_one PySem.W.kitx_int I.kIn True.intro e (fun z=>nomatch z) h
 | str y=>obtain ⟨t,q⟩:=(show ∃ t,u=Value.str y t from rx); cases q; exact PySem.W.kia_one PySem.W.kitx_str I.kIn True.intro e (fun z=>nomatch z) h
 | flt y=>obtain ⟨t,q⟩:=(show ∃ t,u=Value.float y t from rx); cases q; exact PySem.W.kia_one PySem.W.kitx_float I.kIn True.intro e (fun z=>nomatch z) h
 | @lst a xs ea =>
  cases (show u=Value.ref a from rx)
  obtain ⟨_,_,n,_,h1⟩:=(show ObjOk X.prog X.w H s.heap a (.lst xs) from I.hok a _ ea)
  exact PySem.W.kia_one PySem.W.kitx_list I.kIn ⟨_,h1,rfl⟩ e (fun z=>nomatch z) h
 | @frz a ob xs ea =>
  cases (show u=Value.ref a from rx)
  obtain ⟨_,_,_,n,_,h1⟩:=(show ObjOk X.prog X.w H s.heap a (.frz ob (.lst xs)) from I.hok a _ ea)
  exact PySem.W.kia_one PySem.W.kitx_list I.kIn ⟨_,h1,rfl⟩ e (fun z=>nomatch z) h
 | @tup a xs ea =>
  cases (show u=Value.ref a from rx)
  obtain ⟨_,_,_,p⟩:=(show ObjOk X.prog X.w H s.heap a (.tup xs) from I.hok a _ ea)
  obtain ⟨o,h1,h2,_⟩:=p
  exact PySem.W.kia_one PySem.W.kitx_tuple I.kIn ⟨o,h1,h2⟩ e (fun z=>nomatch z) h
 | @dK a kvs ea =>
  cases (show u=Value.ref a from rx)
  obtain ⟨_,_,vs,_,p⟩:=(show ObjOk X.prog X.w H s.heap a (.dK kvs) from I.hok a _ ea)
  obtain ⟨o,es,ep,h1,h2,_⟩:=p
  exact PySem.W.kia_one PySem.W.kitx_dict I.kIn ⟨o,h1,h2.1⟩ e (fun z=>nomatch z) h
 | @dT a kvs ea =>
  cases (show u=Value.ref a from rx)
  obtain ⟨_,_,xs,_,o,es,ep,h1,h2,_⟩:=(show ObjOk X.prog X.w H s.heap a (.dT kvs) from I.hok a _ ea)
  exact PySem.W.kia_one PySem.W.kitx_dict I.kIn ⟨o,h1,h2.1⟩ e (fun z=>nomatch z) h
 | @ins a C dx fs ea cl ha hn htk hm =>
  cases (show u=Value.ref a from rx)
  obtain ⟨mA,O,_⟩:=AM I.hok ea
  obtain ⟨od,J,_⟩:=O.look
  exact PySem.W.kia_one (PySem.W.kitx_own (cl.get _) cl.hd ha hn htk hm) I.kIn J e (fun z=>nomatch z) h
end
end L2
namespace L2
open PySem PySem.Spec PyProof.Rows
structure Room (k:Nat) (A:Around):Prop where
 hd:A.handled=none
 dp:A.depth+3 * k+5 < recursionLimit
 un:A.units+16 * k+200 < cLine
 gd:A.guards=some []
theorem Room.mono {j k:Nat} {A:Around} (r:Room k A) (h:j≤k):Room j A:=⟨r.hd,by have:=r.dp; omega,by have:=r.un; omega,r.gd⟩
theorem Room.deeper {k:Nat} {A:Around} (r:Room (k+1) A) (env:Env):Room k (A.deeper env) :=
 ⟨r.hd,by have:=r.dp; show A.depth+1+3 * k+5 < _; omega,by have:=r.un; show A.units+3+16 * k+200 < _; omega,r.gd⟩
theorem Room.depth {k:Nat} {A:Around} (r:Room k A):A.depth < recursionLimit:=by have:=r.dp; omega
theorem Room.units {k:Nat} {A:Around} (r:Room k A):A.units+64 < cLine:=by have:=r.un; omega
def mH:TA:=fun _ H Q=>Q [] H
def iX (ta:TE) (tr:TA):TA:=fun σ H Q=>ta σ H fun x H1=>tr σ H1 fun xs H2=>Q (x :: xs) H2
section
variable {X:Cx} {e:Expr} {es:List Expr} {te:TE} {t:TA} {pos:Pos}
theorem pa_nil:PA X [] mH:=fun _ _ _ _ H Q I h=>Calls.spliced_nil ⟨[],H,I,.nil,h⟩
theorem dy (ha:PE X e te) (hr:PA X es t) (hs:starEach (e :: es) X.env=(false,eval e X.env) :: starEach es X.env:=by rfl):PA X (e :: es) (iX te t):=by
 intro pos pins s σ H Q I h
 rw [hs]
 show wpAny _ _ (spliced ((false,eval e X.env) :: backTo pos (starEach es X.env))) _ _ s
 refine Calls.spliced_cons (thn (ha pins s σ H _ I h) fun u s1 ⟨x,H1,I1,r1,q1⟩=>?_)
 exact thn (hr pos pins s1 σ H1 _ I1 q1) fun us s2 ⟨xs,H2,I2,r2,q2⟩=>⟨x :: xs,H2,I2,.cons r1 r2,q2⟩
def Dv (t:TA):TE:=fun σ H Q=>t σ H fun xs H1=>xs.length≤sizeLine∧∀ p,H1 p=none→Q (.ref p) (upd H1 p (.tup xs))
def DB (t:TA):TE:=fun σ H Q=>t σ H fun xs H1=>xs.length≤sizeLine∧∀ p,H1 p=none→Q (.ref p) (upd H1 p (.lst xs))
theorem D0 {x1} (h:PA X es t):PE X (.Tuple es x1 pos) (Dv t):=by
 intro pins s σ H Q I hq
 refine wpAny_Tuple_spliced (thn (h pos pins s σ H _ I hq) fun us s1 ⟨xs,H1,I1,r,z,q⟩=>⟨by rw [← r.length]; exact z,?_⟩)
 have hf:H1 s1.heap.objs.size=none:=I1.hok.fresh (Nat.le_refl _)
 refine ⟨.ref s1.heap.objs.size,upd H1 s1.heap.objs.size (.tup xs),I1.laid (t':=s1.toks) (fun b u e=>Heap.get?_push_of_some _ e) (Nat.le_refl _) ?_,rfl,q _ hf⟩
 exact ⟨z,us,r,⟨_,Heap.get?_push_size _ rfl,rfl,_,rfl,rfl⟩⟩
theorem D2 (h:PA X es t):PE X (.List es pos) (DB t):=by
 intro pins s σ H Q I hq
 refine wpAny_List_spliced (thn (h pos pins s σ H _ I hq) fun us s1 ⟨xs,H1,I1,r,z,q⟩=>⟨by rw [← r.length]; exact z,?_⟩)
 have hf:H1 s1.heap.objs.size=none:=I1.hok.fresh (Nat.le_refl _)
 refine ⟨.ref s1.heap.objs.size,upd H1 s1.heap.objs.size (.lst xs),I1.laid (t':=s1.toks) (fun b u e=>Heap.get?_push_of_some _ e) (Nat.le_refl _) ?_,rfl,q _ hf⟩
 exact ⟨z,us,0,r,Heap.get?_push_size _ rfl⟩
end
abbrev Sp:=List V→Hp→VK→XK→Prop
abbrev CXT:=List Env→Hp→Shared→XK→Value→Shared→Prop
structure Env0 (P:Program) (w:World) (K:PySem.W.Frag) (mg:Str→Option Value) (base:Heap) (A:Around) (outer:List Env) (s:Shared) (H:Hp):Prop where
 frames:A.frames=some outer
 mod:Mod K mg base
 bs:∀ b o,base.get? b=some o→s.heap.get? b=some o∧H b=none
 bsz:base.objs.size≤s.heap.objs.size
 funs:s.heap.FunFrames base outer
 frf:∀ b∈frs outer,H b=none
 hok:HOk P w H s.heap
 bare:AllBare s.gens
def CE (outer:List Env) (P:Program) (w:World) (H:Hp) (s:Shared) (Q:VK) (u:Value) (s':Shared):Prop :=
 ∃ v H',s'.os=s.os∧AllBare s'.gens∧Un (frs outer) [] H H' s.heap s'.heap∧HOk P w H' s'.heap∧RelV v u∧Q v H'
def CR (CX:CXT) (outer:List Env) (P:Program) (w:World) (H:Hp) (s:Shared) (Q:VK) (E:XK) (r:Result) (s':Shared):Prop :=
 match r with
 | .ok (.ret u)=>CE outer P w H s Q u s'
 | .ok _=>False
 | .error e=>CX outer H s E e s'
structure FnOk (P:Program) (w:World) (K:PySem.W.Frag) (mg:Str→Option Value) (base:Heap) (CX:CXT) (k:Nat) (f:Addr) (fd:FuncData) (ps:List Str) (sp:Sp):Prop where
 len:∀ vs H Q E,sp vs H Q E→vs.length=ps.length
 run:∀ (A:Around) (outer:List Env) (s:Shared) (H:Hp) (args:Args) (us:List Value) (vs:List V) (Q:VK) (E:XK),Room k A→Env0 P w K mg base A outer s H→BindsTo s fd args (ps.zip us)→Vals vs us→sp vs H Q E →
  codeAny (model P w) A (.call (.ref f) args) (CR CX outer P w H s Q E) s
theorem FnOk.mono {P:Program} {w:World} {K:PySem.W.Frag} {mg:Str→Option Value} {base:Heap} {CX:CXT} {j k:Nat} {f:Addr} {fd:FuncData} {ps:List Str} {sp:Sp} (F:FnOk P w K mg base CX j f fd ps sp) (h:j≤k) :
  FnOk P w K mg base CX k f fd ps sp:=⟨F.len,fun A outer s H args us vs Q E hr=>F.run A outer s H args us vs Q E (hr.mono h)⟩
theorem FnOk.imp {P:Program} {w:World} {K:PySem.W.Frag} {mg:Str→Option Value} {base:Heap} {CX:CXT} {k:Nat} {f:Addr} {fd:FuncData} {ps:List Str} {sp sp':Sp} (F:FnOk P w K mg base CX k f fd ps sp)
  (h:∀ vs H Q E,sp' vs H Q E→sp vs H Q E):FnOk P w K mg base CX k f fd ps sp' :=
 ⟨fun vs H Q E q=>F.len vs H Q E (h _ _ _ _ q),fun A outer s H args us vs Q E hr he hb hv hs=>F.run A outer s H args us vs Q E hr he hb hv (h _ _ _ _ hs)⟩
section
variable {X:Cx} {pins:List (Addr × Obj)} {σ:St} {H:Hp} {s s':Shared}
theorem Inv.env0 (I:Inv X pins σ H s):Env0 X.prog X.w X.K X.mg X.base X.A X.stack s H :=
 ⟨I.ok.frames,I.ok.mod,I.bs,Nat.le_trans I.ok.bsz I.sz,I.stack,I.stkFree,I.hok,I.bare⟩
theorem Inv.after {Q:VK} {u:Value} (I:Inv X pins σ H s) (h:CE X.stack X.prog X.w H s Q u s'):EP X pins σ Q u s':=by
 obtain ⟨v,H',os,bare,un,hok,r,q⟩:=h
 obtain ⟨hh,g,d,t,os'⟩:=s'
 obtain rfl:os'=s.os:=os
 exact ⟨v,H',I.call (h':=hh) (g':=g) (d':=d) (t':=t) (ch:=[]) un hok bare (fun b z=>absurd z (by simp)),r,q⟩
end
def pk (sp:Sp) (dvs:List V) (E:XK) (t:TA):TE:=fun σ H Q=>t σ H fun vs H1=>sp (vs++dvs) H1 Q E
def Binds (K:PySem.W.Frag) (fd:FuncData) (ps:List Str) (ds:List Value):Prop :=
 ∀ (s:Shared) (us:List Value),K.In s.heap→(us++ds).length=ps.length→BindsTo s fd ⟨us,[]⟩ (ps.zip (us++ds))
theorem Binds.all {K:PySem.W.Frag} {fd:FuncData} {ps:List Str} (h:∀ us:List Value,us.length=ps.length→bindArgs fd ⟨us,[]⟩=pure (ps.zip us)):Binds K fd ps []:=fun s us _ hl=>by
 rw [List.append_nil] at hl ⊢
 exact .of_eq (h us hl)
def nL (CX:CXT) (X:Cx) (E:XK):Prop:=∀ (pins:List (Addr × Obj)) (σ:St) (H:Hp) (s:Shared) (e:Value) (s':Shared),Inv X pins σ H s→CX X.stack H s E e s'→X.xe e s'
section
variable {X:Cx} {CX:CXT} {k:Nat} {f C:Addr} {fd:FuncData} {ps:List Str} {sp:Sp} {dvs:List V} {ds:List Value} {E:XK} {x m:Str} {p pos apos:Pos} {e o:Expr} {es:List Expr} {ta:TE} {t:TA}
theorem DG {pins:List (Addr × Obj)} {σ:St} {H:Hp} {s:Shared} {Q:VK} {us:List Value} {vs:List V} (F:FnOk X.prog X.w X.K X.mg X.base CX k f fd ps sp) (hr:Room k X.A) (hb:Binds X.K fd ps ds) (hd:Vals dvs ds) (hx:nL CX X E)
  (I:Inv X pins σ H s) (r:Vals vs us) (h:sp (vs++dvs) H Q E):wpAny (model X.prog X.w) X.A (call (.ref f) us) (EP X pins σ Q) X.xe s:=by
 have r2:Vals (vs++dvs) (us++ds):=r.append hd
 have hl:(us++ds).length=ps.length:=by rw [← r2.length]; exact F.len _ _ _ _ h
 refine wpAny_call (codeAny_mono (F.run X.A X.stack s H ⟨us,[]⟩ (us++ds) (vs++dvs) Q E hr I.env0 (hb s us I.kIn hl) r2 h) fun r s' hq=>?_)
 cases r with
 | error e=>exact hx pins σ H s e s' I hq
 | ok fl =>
  cases fl with
  | ret u=>exact I.after hq
  | next=>exact False.elim hq
  | brk=>exact False.elim hq
  | cont=>exact False.elim hq
theorem AA (F:FnOk X.prog X.w X.K X.mg X.base CX k f fd ps sp) (hr:Room k X.A) (hg:Gl X x) (hm:X.mg x=some (.ref f)) (hk:PySem.W.keepIn X.K (.ref f)=true) (hb:Binds X.K fd ps ds) (hd:Vals dvs ds) (hx:nL CX X E)
  (ha:PA X (e :: es) t) (hdb:(x == ("__debug__" : Str))=false:=by decide) (he:starEach (e :: es) X.env=(false,eval e X.env) :: starEach es X.env:=by rfl) (hpl:(backTo pos (starEach es X.env)).any (·.1)=false:=by rfl) :
  PE X (.Call (.Name x p) (e :: es) [] pos) (pk sp dvs E t):=by
 intro pins s σ H Q I h
 refine wpAny_Call_Name_kw (gl I hg hm ?_ hdb)
 refine PySem.W.callWith_K (h₀:=X.base) I.ok.mod.kin hk (thn (ha pos pins s σ H _ I h) fun us s1 ⟨vs,H1,I1,r,q⟩=>⟨I1.kIn,?_⟩) he hpl
 exact DG F hr hb hd hx I1 r q
end
section
variable {X:Cx} {CX:CXT} {k:Nat} {f C:Addr} {fd:FuncData} {ps ks:List Str} {sp:Sp} {E:XK} {x m:Str} {p pos apos kpos:Pos} {e o:Expr} {es:List Expr} {kws:List Keyword} {te ta:TE} {t tk:TA} {nm:Option Str}
variable {g:List Value→List Value→List Value} {gV:List V→List V→List V}
end
structure FnScope (N P:List Str) (sc:Scope):Prop where
 kind:sc.kind=.function
 co:sc.isCoroutine=false
 gen:sc.isGenerator=false
 nd:N.Nodup
 pre:N.take P.length=P
 par:∀ x∈P,sc.names.lookup x=some .local∨sc.names.lookup x=some .cell
 nofree:∀ y∈sc.names,y.2≠.free
theorem lY {kindOf:Str→Option NameKind} {x:Str}:∀ {binds:List (Str × Value)} {m:Str→Option Value},(∀ v,(x,v) ∉ binds)→bindL kindOf binds m x=m x
 | [],_,_=>rfl
 | (n,v) :: r,m,h=>by
  unfold bindL
  rw [lY fun w hw=>h w (List.mem_cons_of_mem _ hw)]
  split
  ·have:x≠n:=by rintro rfl; exact h v List.mem_cons_self
   simp [this]
  ·rfl
theorem l5 {kindOf:Str→Option NameKind} {x:Str}:∀ {binds:List (Str × Value)} {m:Str→Option Value},(∀ v,(x,v) ∉ binds)→bindC kindOf binds m x=m x
 | [],_,_=>rfl
 | (n,v) :: r,m,h=>by
  unfold bindC
  rw [l5 fun w hw=>h w (List.mem_cons_of_mem _ hw)]
  split
  ·rfl
  ·have:x≠n:=by rintro rfl; exact h v List.mem_cons_self
   simp [this]
theorem lZ {kindOf:Str→Option NameKind} {x:Str} {v:Value}:∀ {P:List Str} {vs:List Value} {i:Nat} {m:Str→Option Value},P.Nodup→P[i]?=some x→vs[i]?=some v→kindOf x=some .local →
  bindL kindOf (P.zip vs) m x=some v
 | [],_,_,_,_,h,_,_=>by simp at h
 | _ :: _,[],_,_,_,_,h,_=>by simp at h
 | p :: P,w :: vs,0,m,nd,h1,h2,hk=>by
  simp at h1 h2; subst h1; subst h2
  show bindL kindOf ((p,w) :: P.zip vs) m p=_
  unfold bindL
  rw [lY fun v hv=>(List.nodup_cons.mp nd).1 (List.of_mem_zip hv).1,if_pos hk]
  simp
 | p :: P,w :: vs,i+1,m,nd,h1,h2,hk=>by
  show bindL kindOf ((p,w) :: P.zip vs) m x=_
  unfold bindL
  exact lZ (i:=i) (List.nodup_cons.mp nd).2 (by simpa using h1) (by simpa using h2) hk
theorem l6 {kindOf:Str→Option NameKind} {x:Str} {v:Value}:∀ {P:List Str} {vs:List Value} {i:Nat} {m:Str→Option Value},P.Nodup→P[i]?=some x→vs[i]?=some v→kindOf x≠some .local →
  bindC kindOf (P.zip vs) m x=some v
 | [],_,_,_,_,h,_,_=>by simp at h
 | _ :: _,[],_,_,_,_,h,_=>by simp at h
 | p :: P,w :: vs,0,m,nd,h1,h2,hk=>by
  simp at h1 h2; subst h1; subst h2
  show bindC kindOf ((p,w) :: P.zip vs) m p=_
  unfold bindC
  rw [l5 fun v hv=>(List.nodup_cons.mp nd).1 (List.of_mem_zip hv).1,if_neg hk]
  simp
 | p :: P,w :: vs,i+1,m,nd,h1,h2,hk=>by
  show bindC kindOf ((p,w) :: P.zip vs) m x=_
  unfold bindC
  exact l6 (i:=i) (List.nodup_cons.mp nd).2 (by simpa using h1) (by simpa using h2) hk
def bX (N:List Str) (vs:List V):St:=vs.map some++List.replicate (N.length - vs.length) none
def gX (CX:CXT) (P:Program) (w:World) (K:PySem.W.Frag) (mg:Str→Option Value) (base:Heap) (N:List Str) (qual:Str) (scope:Scope) (f:Addr) (cd:Value) (A:Around) (outer:List Env) (s:Shared) (H:Hp) (E:XK):Cx where
 prog:=P
 w:=w
 K:=K
 mg:=mg
 base:=base
 A:=A.deeper (envOfC qual scope s.heap.objs.size f cd)
 N:=N
 s₀:=s
 H₀:=H
 env:=envOfC qual scope s.heap.objs.size f cd
 outer:=outer
 stack:=envOfC qual scope s.heap.objs.size f cd :: outer
 ex:=[]
 calm:=true
 fn:=fun _=>true
 pn:=[]
 xe:=fun e s'=>wpAny (model P w) (A.deeper (envOfC qual scope s.heap.objs.size f cd)) (leaving (envOfC qual scope s.heap.objs.size f cd) e) (fun _ s''=>CX outer H s E e s'') (fun e' s''=>CX outer H s E e' s'') s'
theorem nC {sc:Scope} {n:Nat} {x:Str} (h:sc.names.lookup x=some .cell):∃ c,(cellsFrom n sc.names []).lookup x=some c:=by
 have q:=PySem.W.cellsFrom_some sc.names n [] (.inl h)
 exact Option.isSome_iff_exists.mp q
theorem rh {CX:CXT} {P:Program} {w:World} {K:PySem.W.Frag} {mg:Str→Option Value} {base:Heap} {N ps:List Str} {qual:Str} {scope:Scope} {f:Addr} {cd:Value} {A:Around} {outer:List Env} {s s1:Shared} {H:Hp} {E:XK} {us:List Value} {vs:List V}
  (S:FnScope N ps scope) (hd:A.handled=none) (e0:Env0 P w K mg base A outer s H) (hl:vs.length=ps.length) (r:Vals vs us)
  (x:InCallC s s.heap.objs.size (bindL (envOfC qual scope s.heap.objs.size f cd).kindOf (ps.zip us) fun _=>none) (cellsFrom (s.heap.objs.size+1) scope.names []) (bindC (envOfC qual scope s.heap.objs.size f cd).kindOf (ps.zip us) fun _=>none) s1) :
  Inv (gX CX P w K mg base N qual scope f cd A outer s H E) [] (bX N vs) H s1:=by
 have hpl:ps.length≤N.length:=by have:=congrArg List.length S.pre; rw [List.length_take] at this; omega
 obtain ⟨h1,tk,rfl,hk⟩:=x.done
 have noA:∀ b:Addr,b ∉ (gX CX P w K mg base N qual scope f cd A outer s H E).ex:=fun b z=>absurd (show b∈([]:List Addr) from z) (by simp)
 refine ⟨⟨e0.mod,S.kind,rfl,rfl,Nat.le_refl _,fun y z c h1 h2=>?_,fun y hy=>?_,fun y c _ h=>?_,fun _=>hd,Around.frames_deeper e0.frames,.inr ⟨rfl,rfl⟩,fun b z=>absurd z (noA b),e0.bs,e0.bsz,fun b _ _=>noA b,fun b z=>absurd z (noA b),e0.funs,e0.frf⟩,
  rfl,e0.bare,Un.kept hk,⟨_,x.toInCall.ns,fun i y v h1 h2 h3=>?_⟩,fun y c h=>⟨_,x.cell y c h⟩,e0.hok.fresh (Nat.le_refl _),fun y c h=>?_,fun p hp=>absurd (show p∈([]:List (Addr × Obj)) from hp) (by simp),e0.hok.kept hk,?_⟩
 ·exact name_of_addr x.apart (PySem.mem_of_lookup h1) (PySem.mem_of_lookup h2)
 ·have hy:scope.names.lookup y=some .cell∨scope.names.lookup y=some .free:=hy
  rcases hy with hy | hy
  ·exact nC hy
  ·exact absurd rfl (S.nofree _ (PySem.mem_of_lookup hy))
 ·exact Nat.le_of_lt (x.above y c (PySem.mem_of_lookup h))
 ·have hi:i < vs.length:=by
   unfold bX at h2
   by_cases hi:i < vs.length
   ·exact hi
   ·rw [List.getElem?_append_right (by simpa using hi)] at h2
    rw [List.getElem?_replicate] at h2
    split at h2 <;> cases h2
  have ha:vs[i]?=some v:=by
   unfold bX at h2
   rw [List.getElem?_append_left (by simpa using hi),List.getElem?_map] at h2
   cases e:vs[i]? with
   | none=>rw [e] at h2; cases h2
   | some a=>rw [e] at h2; cases h2; rfl
  obtain ⟨u,hu,rv⟩:=r.get ha
  have hp:ps[i]?=some y:=by
   rw [← S.pre,List.getElem?_take_of_lt (by omega)]; exact h1
  have ndP:ps.Nodup:=by rw [← S.pre]; exact S.nd.sublist (List.take_sublist _ _)
  refine ⟨u,rv,?_⟩
  rcases S.par y (List.mem_of_getElem? hp) with k | k
  ·exact .inl ⟨k,lZ ndP hp hu k⟩
  ·obtain ⟨c,e⟩:=nC (n:=s.heap.objs.size+1) k
   refine .inr ⟨.inl k,c,e,?_⟩
   have q:=x.cell y c e
   rw [l6 ndP hp hu (by show scope.names.lookup y≠_; rw [k]; decide)] at q
   exact q
 ·exact e0.hok.fresh (Nat.le_of_lt (x.above y c (PySem.mem_of_lookup h)))
 ·unfold bX
  show _=N.length
  rw [List.length_append,List.length_map,List.length_replicate]
  omega
theorem zW {CX:CXT} {P:Program} {w:World} {K:PySem.W.Frag} {mg:Str→Option Value} {base:Heap} {k:Nat} {f:Addr} {name qual:Str} {params:Arguments} {body:List Stmt} {scope:Scope} {dV kV doc pm cdv ct oc:Value} {an od:Option Addr}
  {osl:Array (Option Value)} {N ps:List Str} {sp:Sp} (lk:K.lookup f=some ⟨oc,od,.func (PySem.W.fnOf name qual params body scope dV kV doc pm an cdv ct),osl⟩) (hcd:PySem.W.codeIn K cdv qual=true) (S:FnScope N ps scope)
  (len:∀ vs H Q E,sp vs H Q E→vs.length=ps.length)
  (hbody:∀ (A:Around) (outer:List Env) (s:Shared) (H:Hp) (vs:List V) (Q:VK) (E:XK),Room k (A.deeper (envOfC qual scope s.heap.objs.size f cdv))→sp vs H Q E →
   ∃ t,PSs (gX CX P w K mg base N qual scope f cdv A outer s H E) body t∧t { nx:=fun _ H'=>Q .non H',rt:=Q } (bX N vs) H) :
  FnOk P w K mg base CX (k+1) f (PySem.W.fnOf name qual params body scope dV kV doc pm an cdv ct) ps sp:=by
 refine ⟨len,fun A outer s H args us vs Q E hr e0 hb r hsp=>?_⟩
 have hl:=len _ _ _ _ hsp
 have KX:K.In s.heap:=e0.mod.kin.keeps fun b o e=>(e0.bs b o e).1
 have lim:s.heap.NoLimit:=e0.mod.nolimit.keeps fun b o e=>(e0.bs b o e).1
 have hkind:∀ y∈ps.zip us,scope.names.lookup y.1=some .local∨(scope.names.lookup y.1=some .cell∧((cellsFrom (s.heap.objs.size+1) scope.names []).lookup y.1).isSome=true):=fun ⟨n,v⟩ hy=>by
  rcases S.par n (List.of_mem_zip hy).1 with q | q
  ·exact .inl q
  ·exact .inr ⟨q,PySem.W.cellsFrom_some _ _ _ (.inl q)⟩
 refine codeAny_call_function hr.depth (KX _ _ lk) rfl S.co S.gen rfl (PySem.W.codeRec_of KX hcd) (hb _ _ _ _ ?_)
 refine wpAny_newFunctionEnv_cells S.kind hkind fun env he s1 x=>?_
 subst he
 refine ⟨lim.keeps x.toInCall.keep,codeAny_func ?_⟩
 obtain ⟨t,ht,hq⟩:=hbody A outer s H vs Q E (hr.deeper _) hsp
 have I:Inv (gX CX P w K mg base N qual scope f cdv A outer s H E) [] (bX N vs) H s1:=rh S hr.hd e0 hl r x
 refine wpAny_mono (ht [] s1 (bX N vs) H _ I hq) (fun fl s' hs=>?_) fun e s' hs=>hs
 have fin:∀ {σ':St} {H':Hp} {v:V} {u:Value},Inv (gX CX P w K mg base N qual scope f cdv A outer s H E) [] σ' H' s'→RelV v u→Q v H'→CE outer P w H s Q u s' :=
  fun {σ' H' v u} J rv q=>⟨v,H',J.os,J.bare,J.base,J.hok,rv,q⟩
 cases fl with
 | ret u =>
  obtain ⟨v,σ',H',J,rv,q⟩:=hs
  exact fin J rv q
 | next =>
  obtain ⟨σ',H',J,q⟩:=hs
  exact fin (v:=V.non) (u:=Value.none) J rfl q
 | brk =>
  obtain ⟨_,_,_,q⟩:=hs
  exact False.elim q
 | cont =>
  obtain ⟨_,_,_,q⟩:=hs
  exact False.elim q
end L2
namespace L2
open PySem PySem.Spec PyProof.Rows
section
variable {X:Cx} {x:Str} {p pos:Pos} {e:Expr} {es:List Expr} {t:TA} {id T:String} {r:List V→Hp→VK→Prop}
def tCB (r:List V→Hp→VK→Prop) (t:TA):TE:=fun σ H Q=>t σ H fun vs H1=>r vs H1 Q
theorem mP (hc:CallR X (.builtin id) r) (hg:Gl X x) (hm:X.mg x=none) (hv:bootBuiltins x=some (.builtin id)) (ha:PA X (e :: es) t) (hn:x≠"__name__":=by decide) (hdb:(x == ("__debug__" : Str))=false:=by decide)
  (he:starEach (e :: es) X.env=(false,eval e X.env) :: starEach es X.env:=by rfl) (hpl:(backTo pos (starEach es X.env)).any (·.1)=false:=by rfl):PE X (.Call (.Name x p) (e :: es) [] pos) (tCB r t):=by
 intro pins s σ H Q I h
 refine wpAny_Call_Name_kw (iy I hg hm hv ?_ hn hdb)
 exact PyProof.Rows.callWith_builtin1 (thn (ha pos pins s σ H _ I h) fun us s1 ⟨vs,H1,I1,r1,q1⟩=>hc pins s1 σ H1 vs us Q I1 r1 q1) he hpl
theorem qK (hc:CallR X (.type T) r) (hg:Gl X x) (hm:X.mg x=none) (hv:bootBuiltins x=some (.type T)) (ha:PA X (e :: es) t) (hn:x≠"__name__":=by decide) (hdb:(x == ("__debug__" : Str))=false:=by decide)
  (he:starEach (e :: es) X.env=(false,eval e X.env) :: starEach es X.env:=by rfl) (hpl:(backTo pos (starEach es X.env)).any (·.1)=false:=by rfl):PE X (.Call (.Name x p) (e :: es) [] pos) (tCB r t):=by
 intro pins s σ H Q I h
 refine wpAny_Call_Name_kw (iy I hg hm hv ?_ hn hdb)
 exact PyProof.Rows.callWith_type1 (thn (ha pos pins s σ H _ I h) fun us s1 ⟨vs,H1,I1,r1,q1⟩=>hc pins s1 σ H1 vs us Q I1 r1 q1) he hpl
end
end L2
namespace HT
open PySem PyProof.Rows
section
open PySem.SeqAt
open PySem.AutoSeq1 (wpAny_loadPart')
open PySem.MeetsSeq PySem.MeetsSeq2 PySem.MeetsSeq3
end
section
variable {prog:Program} {w:World} {A:Around} {E:Value→Shared→Prop} {s:Shared}
def sIx (n d:Nat):Option Int→Nat
 | none=>d
 | some v=>if v < 0 then (v+(n:Int)).toNat else min v.toNat n
theorem sIx_none (n d:Nat):sIx n d none=d:=rfl
theorem sIx_nat (n d k:Nat):sIx n d (some (k:Int))=min k n:=by
 show (if (k:Int) < 0 then ((k:Int)+(n:Int)).toNat else min (k:Int).toNat n)=min k n
 rw [if_neg (by omega),Int.toNat_natCast]
end
end HT
namespace L2
open PySem PySem.Spec PyProof.Rows
abbrev TO:=St→Hp→(Option Int→Hp→Prop)→Prop
def PO (X:Cx) (e:Option Expr) (t:TO):Prop :=
 ∀ (pins:List (Addr × Obj)) (s:Shared) (σ:St) (H:Hp) (Q:Option Int→Hp→Prop),Inv X pins σ H s→t σ H Q →
  wpAny (model X.prog X.w) X.A (evalPart e X.env) (fun u s'=>∃ o H',Inv X pins σ H' s'∧IsPart u o∧Q o H') X.xe s
def Ae:TO:=fun _ H Q=>Q none H
def FE (t:TE):TO:=fun σ H Q=>t σ H fun x H1=>∃ i,x=.int i∧Q (some i) H1
section
variable {X:Cx} {e:Expr} {te:TE} {lo hi:Option Expr} {tl th:TO} {pos p2:Pos}
theorem po_none:PO X none Ae:=by
 intro pins s σ H Q I h
 rw [evalPart_none]
 exact wpAny_pure ⟨none,H,I,.none,h⟩
theorem Au (h:PE X e te):PO X (some e) (FE te):=by
 intro pins s σ H Q I hw
 rw [evalPart_some]
 refine thn (h pins s σ H _ I hw) fun u s1 ⟨x,H1,I1,r1,q1⟩=>?_
 obtain ⟨i,rfl,q⟩:=q1
 obtain ⟨t,rfl⟩:=r1
 exact ⟨some i,H1,I1,.int i t,q⟩
def SlR (X:Cx) (r:V→Option Int→Option Int→Hp→VK→Prop):Prop :=
 ∀ (pins:List (Addr × Obj)) (s:Shared) (σ:St) (H:Hp) (x:V) (v vl vu:Value) (lo hi:Option Int) (sl:Addr) (Q:VK),Inv X pins σ H s→RelV x v→s.heap.IsSliceOf sl vl vu .none→IsPart vl lo→IsPart vu hi→r x lo hi H Q →
  ∃ T id,typeLookup (.type T) "__getitem__"=pure (some (.builtin id))∧s.TypeIs v T∧wpAny (model X.prog X.w) X.A (getItem v (.ref sl)) (EP X pins σ Q) X.xe s
def tSl (r:V→Option Int→Option Int→Hp→VK→Prop) (te:TE) (tl th:TO):TE:=fun σ H Q=>te σ H fun x H1=>tl σ H1 fun l H2=>th σ H2 fun u H3=>r x l u H3 Q
theorem sF {r:V→Option Int→Option Int→Hp→VK→Prop} (hr:SlR X r) (he:PE X e te) (hl:PO X lo tl) (hu:PO X hi th):PE X (.Subscript e (.Slice lo hi none p2) pos) (tSl r te tl th):=by
 intro pins s σ H Q I h
 refine Subscript_ (thn (he pins s σ H _ I h) fun v s1 ⟨x,H1,I1,r1,q1⟩=>?_)
 refine wpAny_Slice (thn (hl pins s1 σ H1 _ I1 q1) fun vl s2 ⟨l,H2,I2,pl,q2⟩=>thn (hu pins s2 σ H2 _ I2 q2) fun vu s3 ⟨u,H3,I3,pu,q3⟩=>?_)
 rw [evalPart_none]
 refine wpAny_pure ?_
 have I4:Inv X pins σ H3 { s3 with heap:=s3.heap.push { cls:=.type "slice",data:=.fields #[vl,vu,.none] } }:=I3.kept (t':=s3.toks) fun b ob q=>Heap.get?_push_of_some _ q
 obtain ⟨T,id,hT,ht,hg⟩:=hr pins { s3 with heap:=s3.heap.push { cls:=.type "slice",data:=.fields #[vl,vu,.none] } } σ H3 x v vl vu l u s3.heap.objs.size Q I4 r1 (Heap.IsSliceOf.new ..) pl pu q3
 show wpAny (model X.prog X.w) X.A (subscriptTail e (.Slice lo hi none p2) v (.ref s3.heap.objs.size)) (EP X pins σ Q) X.xe { s3 with heap:=s3.heap.push { cls:=.type "slice",data:=.fields #[vl,vu,.none] } }
 exact tail_any (ops:=[.ref s3.heap.objs.size,v]) ht hT hg (by with_unfolding_all rfl)
def lh (xs:List V) (lo hi:Option Int):List V:=(xs.drop (HT.sIx xs.length 0 lo)).take (HT.sIx xs.length xs.length hi - HT.sIx xs.length 0 lo)
theorem n6 (xs:List V) (lo hi:Option Int):(lh xs lo hi).length≤xs.length:=by
 unfold lh
 rw [List.length_take,List.length_drop]
 omega
end
end L2
namespace L2
open PySem PySem.Spec PyProof.Rows
def ixN (n:Nat) (i:Int):Option Nat:=if 0≤i then (if i < n then some i.toNat else none) else if -(n:Int)≤i then some (i+n).toNat else none
def atI {α:Type} (xs:List α) (i:Int):Option α:=(ixN xs.length i).bind fun j=>xs[j]?
theorem oM {n:Nat} {i:Int} {j:Nat} (h:ixN n i=some j):seqIndex? i n=some j∧j < n∧-(n:Int)≤i∧i < n:=by
 unfold ixN at h
 by_cases h0:0≤i
 ·rw [if_pos h0] at h
  by_cases h1:i < n
  ·rw [if_pos h1] at h
   have e:i.toNat=j:=Option.some.inj h
   exact ⟨by rw [seqIndex_of h0 h1,e],by omega,by omega,h1⟩
  ·rw [if_neg h1] at h; cases h
 ·rw [if_neg h0] at h
  by_cases h1:-(n:Int)≤i
  ·rw [if_pos h1] at h
   have e:(i+n).toNat=j:=Option.some.inj h
   exact ⟨by rw [seqIndex_neg (by omega) h1,e],by omega,h1,by omega⟩
  ·rw [if_neg h1] at h; cases h
theorem lu {α:Type} {xs:List α} {i:Int} {v:α} (h:atI xs i=some v):∃ j,seqIndex? i xs.length=some j∧xs[j]?=some v∧j < xs.length∧-(xs.length:Int)≤i∧i < xs.length:=by
 unfold atI at h
 cases e:ixN xs.length i with
 | none=>rw [e] at h; cases h
 | some j =>
  rw [e] at h
  obtain ⟨h1,h2,h3,h4⟩:=oM e
  exact ⟨j,h1,h,h2,h3,h4⟩
def gw (b:Expr):Prop:=∀ o i,subscripted b false o i=operate [o,i] (getItem o i)
def IxR (X:Cx) (r:R2):Prop :=
 ∀ (value slice:Expr) (pins:List (Addr × Obj)) (s:Shared) (σ:St) (H:Hp) (x y:V) (v u:Value) (Q:VK),Inv X pins σ H s→RelV x v→RelV y u→r x y H Q →
  subscripted slice false v u=operate [v,u] (getItem v u)→wpAny (model X.prog X.w) X.A (subscriptTail value slice v u) (EP X pins σ Q) X.xe s
def MtR (X:Cx) (id:String) (r:V→List V→Hp→VK→Prop):Prop :=
 ∀ (pins:List (Addr × Obj)) (s:Shared) (σ:St) (H:Hp) (x:V) (xs:List V) (v:Value) (us:List Value) (Q:VK),Inv X pins σ H s→RelV x v→Vals xs us→r x xs H Q →
  wpAny (model X.prog X.w) X.A (call (.builtin id) (v :: us)) (EP X pins σ Q) X.xe s
section
variable {X:Cx} {a b:Expr} {ta tb:TE} {pos:Pos}
theorem IxR.or {r r':R2} (h:IxR X r) (h':IxR X r'):IxR X (fun x y H Q=>r x y H Q∨r' x y H Q):=by
 intro value slice pins s σ H x y v u Q I rx ry q hs
 rcases q with q | q
 ·exact h value slice pins s σ H x y v u Q I rx ry q hs
 ·exact h' value slice pins s σ H x y v u Q I rx ry q hs
theorem zE {r:R2} (hr:IxR X r) (ha:PE X a ta) (hb:PE X b tb) (hs:gw b):PE X (.Subscript a b pos) (tOp r ta tb):=by
 intro pins s σ H Q I h
 exact Subscript_ (ub ha hb I h fun v u s2 x y H2 I2 rx ry q=>hr a b pins s2 σ H2 x y v u Q I2 rx ry q (hs _ _))
def pq (K:PySem.W.Frag):R2:=fun x y H Q=>∃ p xs i v,x=.ref p∧y=.int i∧SqL K H p xs∧atI xs i=some v∧Q v H
def DM (K:PySem.W.Frag):R2:=fun x y H Q=>∃ p xs i v,x=.ref p∧y=.int i∧SqT K H p xs∧atI xs i=some v∧Q v H
def DN:R2:=fun x y H Q=>∃ z i c,x=.str z∧y=.int i∧z.length≤sizeLine∧atI z.cps.toList i=some c∧Q (.str ⟨#[c]⟩) H
theorem ix_list:IxR X (pq X.K):=by
 intro value slice pins s σ H x y v u Q I rx ry h hs
 obtain ⟨p,xs,i,z,rfl,rfl,hq,he,q⟩:=h
 cases rx
 obtain ⟨t,rfl⟩:=ry
 obtain ⟨its,r,pl,hz⟩:=I.list hq
 obtain ⟨j,h1,h2,h3,h4,h5⟩:=lu he
 obtain ⟨w,ew,rw'⟩:=r.get h2
 have hl:=r.length
 have hn:=gk
 have fin:EP X pins σ Q w s:=⟨z,H,I,rw',q⟩
 by_cases h0:0≤i
 ·have hj:i.toNat=j:=by
   rw [seqIndex_of h0 h5] at h1
   exact Option.some.inj h1
  exact item_listR pl.isList h0 (by omega) (by rw [hj]; simpa using ew) fin hs
 ·have hj:(i+(its.toArray.size:Int)).toNat=j:=by
   rw [seqIndex_neg (by omega) h4] at h1
   rw [List.size_toArray,← hl]
   exact Option.some.inj h1
  exact subscriptTail_builtinR (x:=w) pl.isList.typeIs slot_list_getitem.lookup
   (wpAny_getItem_list_neg (Q:=fun r s'=>r=w∧EP X pins σ Q r s') pl.isList (by omega) (by rw [List.size_toArray] <;> omega) (by omega) (by rw [hj]; simpa using ew) ⟨rfl,fin⟩) hs
theorem ix_tup:IxR X (DM X.K):=by
 intro value slice pins s σ H x y v u Q I rx ry h hs
 obtain ⟨p,xs,i,z,rfl,rfl,hq,he,q⟩:=h
 cases rx
 obtain ⟨t,rfl⟩:=ry
 obtain ⟨its,r,pl,hz⟩:=I.tuple hq
 obtain ⟨j,h1,h2,h3,h4,h5⟩:=lu he
 obtain ⟨w,ew,rw'⟩:=r.get h2
 have hl:=r.length
 have hn:=gk
 have fin:EP X pins σ Q w s:=⟨z,H,I,rw',q⟩
 exact subscriptTail_builtinR (x:=w) pl.typeIs slot_tuple_getitem.lookup
  (getItem_tuple (j:=j) (Q:=fun r s'=>r=w∧EP X pins σ Q r s') pl (by omega) (by omega) (by rw [List.size_toArray,← hl]; exact h1) (by simpa using ew) ⟨rfl,fin⟩) hs
theorem ix_str:IxR X DN:=by
 intro value slice pins s σ H x y v u Q I rx ry h hs
 obtain ⟨z,i,c,rfl,rfl,hz,he,q⟩:=h
 obtain ⟨t,rfl⟩:=rx
 obtain ⟨t',rfl⟩:=ry
 obtain ⟨j,h1,h2,h3,h4,h5⟩:=lu he
 have hl:z.cps.toList.length=z.length:=by simp [Str.length]
 rw [hl] at h1 h4 h5
 have hn:=gk
 exact tail_any (typeIs_str s z t) slot_str_getitem.lookup (getItem_str (c:=c) (by
  have e1:decide (i < -(2 ^ 63:Int))=false:=decide_eq_false (by omega)
  have e2:decide (i ≥ 2 ^ 63)=false:=decide_eq_false (by omega)
  rw [e1,e2,Bool.or_false]) (by rw [h1]; simpa using h2) ⟨.str ⟨#[c]⟩,H,I.tok _,⟨_,rfl⟩,q⟩) hs
def rIx (K:PySem.W.Frag):R2:=fun x y H Q=>pq K x y H Q∨DM K x y H Q∨DN x y H Q
theorem ix_seq:IxR X (rIx X.K):=ix_list.or (ix_tup.or ix_str)
theorem pG (its:List Value) (n j:Nat) (u:Value):Obj.mapSeq (·.setIfInBounds j u) { cls:=.type "list",data:=.seq its.toArray n }={ cls:=.type "list",data:=.seq (its.set j u).toArray n }:=by
 simp [Obj.mapSeq]
theorem Inv.lst {pins:List (Addr × Obj)} {σ:St} {H:Hp} {s:Shared} {p:Addr} {xs:List V} (I:Inv X pins σ H s) (h:H p=some (.lst xs)) :
  ∃ (its:List Value) (n:Nat),Vals xs its∧s.heap.get? p=some { cls:=.type "list",data:=.seq its.toArray n }∧xs.length≤sizeLine:=by
 obtain ⟨z,its,n,r,e⟩:=I.hok p _ h
 exact ⟨its,n,r,e,z⟩
theorem Inv.lstUpd {pins:List (Addr × Obj)} {σ:St} {H:Hp} {s:Shared} {p:Addr} {xs ys:List V} {its its':List Value} {n n':Nat} {f:Obj→Obj} (I:Inv X pins σ H s) (h:H p=some (.lst xs))
  (ho:s.heap.get? p=some { cls:=.type "list",data:=.seq its.toArray n }) (hf:f { cls:=.type "list",data:=.seq its.toArray n }={ cls:=.type "list",data:=.seq its'.toArray n' }) (r:Vals ys its') (hz:ys.length≤sizeLine) (t:Nat) :
  Inv X pins σ (upd H p (.lst ys)) { s with heap:=s.heap.update p f,toks:=t }:=by
 have e:(s.heap.update p f).get? p=some { cls:=.type "list",data:=.seq its'.toArray n' }:=by
  rw [Heap.get?_update_self f ho (by rw [hf] <;> rfl),hf]
 refine I.write (x:=p) (e:=p) (by rw [h]; trivial) (.inl rfl) (fun b u hb q=>(Heap.get?_update_other _ _ (Ne.symm hb)).trans q) ⟨_,e⟩ ?_
 exact ⟨hz,its',n',r,e⟩
def zA:V→V→V→Hp→(Hp→Prop)→Prop:=fun o i v H Q=>∃ p xs k j,o=.ref p∧i=.int k∧H p=some (.lst xs)∧ixN xs.length k=some j∧Q (upd H p (.lst (xs.set j v)))
theorem sv:Fy X zA:=by
 intro pins s σ H o i v ov iv u Q I ro ri rv h
 obtain ⟨p,xs,k,j,rfl,rfl,hp,hj,q⟩:=h
 cases ro
 obtain ⟨t,rfl⟩:=ri
 obtain ⟨its,n,r,ho,hz⟩:=I.lst hp
 obtain ⟨h1,h2,h3,h4⟩:=oM hj
 have hl:=r.length
 have hn:=gk
 have I':Inv X pins σ (upd H p (.lst (xs.set j v))) { s with heap:=s.heap.update p (Obj.mapSeq (·.setIfInBounds j u)) } :=
  I.lstUpd hp ho (pG its n j u) (r.set rv j) (by rw [List.length_set]; exact hz) s.toks
 by_cases h0:0≤k
 ·have hk:k.toNat=j:=by
   rw [seqIndex_of h0 h4] at h1
   exact Option.some.inj h1
  exact PySem.W.ki_setAt ho h0 (by omega) (by rw [List.size_toArray,← hl]; exact h4) (by rw [hk]; exact ⟨_,I',q⟩)
 ·have hk:(k+(its.toArray.size:Int)).toNat=j:=by
   rw [seqIndex_neg (by omega) h3] at h1
   rw [List.size_toArray,← hl]
   exact Option.some.inj h1
  exact PySem.W.ki_setBack ho (by omega) (by rw [List.size_toArray,← hl]; exact h3) (by omega) (by rw [hk]; exact ⟨_,I',q⟩)
theorem mM (lo hi:Option Int) (n:Nat):(sliceBounds lo hi none n).1=((HT.sIx n 0 lo:Nat):Int)∧(sliceBounds lo hi none n).2.1=((HT.sIx n n hi:Nat):Int)∧(sliceBounds lo hi none n).2.2=1:=by
 refine ⟨?_,?_,rfl⟩
 ·cases lo with
  | none=>simp [sliceBounds,HT.sIx]
  | some i =>
   simp only [sliceBounds,HT.sIx,Option.getD_none,show (1:Int) > 0 by decide,if_true]
   by_cases h:i < 0
   ·simp only [h,if_true] <;> omega
   ·simp only [h,if_false] <;> omega
 ·cases hi with
  | none=>simp [sliceBounds,HT.sIx]
  | some i =>
   simp only [sliceBounds,HT.sIx,Option.getD_none,show (1:Int) > 0 by decide,if_true]
   by_cases h:i < 0
   ·simp only [h,if_true] <;> omega
   ·simp only [h,if_false] <;> omega
theorem mf (its:List Value) (lo hi:Option Int):slicePick its.toArray lo hi none=((its.drop (HT.sIx its.length 0 lo)).take (HT.sIx its.length its.length hi - HT.sIx its.length 0 lo)).toArray:=by
 obtain ⟨h1,h2,h3⟩:=mM lo hi its.toArray.size
 unfold slicePick
 rw [h1,h2,h3]
 simp only [sliceRange_one,pick_run,List.size_toArray] <;> rfl
def DL (K:PySem.W.Frag):V→Option Int→Option Int→Hp→VK→Prop:=fun x lo hi H Q=>∃ a xs,x=.ref a∧SqL K H a xs∧∀ p,H p=none→Q (.ref p) (upd H p (.lst (lh xs lo hi)))
theorem Ai:SlR X (DL X.K):=by
 intro pins s σ H x v vl vu lo hi sl Q I rx hs pl pu h
 obtain ⟨a,xs,rfl,hx,q⟩:=h
 cases rx
 obtain ⟨its,r,ht,hz⟩:=I.list hx
 have hlen:=r.length
 refine ⟨"list",_,slot_list_getitem.lookup,ht.isList.typeIs,?_⟩
 refine wpAny_getItem_list_slice ht.isList hs pl pu .none (by simp) ?_ (by rw [List.size_toArray] <;> omega)
 rw [mf,← hlen]
 refine ⟨.ref s.heap.objs.size,_,I.laid (t':=s.toks) (o:=.lst (lh xs lo hi)) (fun b ob q=>Heap.get?_push_of_some _ q) (Nat.le_refl _) ?_,rfl,q _ (I.hok.fresh (Nat.le_refl _))⟩
 exact ⟨Nat.le_trans (n6 xs lo hi) hz,_,0,(r.drop (HT.sIx xs.length 0 lo)).take (HT.sIx xs.length xs.length hi - HT.sIx xs.length 0 lo),Heap.get?_push_size _ rfl⟩
theorem nF:CallR X (.type "list") (fun xs H Q=>∃ p ys,xs=[.ref p]∧(SqL X.K H p ys∨SqT X.K H p ys)∧∀ l,H l=none→Q (.ref l) (upd H l (.lst ys))):=by
 intro pins s σ H xs us Q I r h
 obtain ⟨p,ys,rfl,hq,q⟩:=h
 obtain ⟨u,rfl,rx⟩:=da r
 cases rx
 have fin:∀ (its:List Value),Vals ys its→ys.length≤sizeLine→∀ (h':Heap) (c':Nat),(∀ b o',s.heap.get? b=some o'→h'.get? b=some o') →
   h'.get? s.heap.objs.size=some { cls:=.type "list",dict:=none,data:=.seq its.toArray c',slots:=#[] }→EP X pins σ Q (.ref s.heap.objs.size) { s with heap:=h' }:=fun its r' hz h' c' kp e =>
  ⟨.ref s.heap.objs.size,_,I.laid (t':=s.toks) kp (Nat.le_refl _) (show ObjOk X.prog X.w _ h' _ (.lst ys) from ⟨hz,its,c',r',e⟩),rfl,q _ (I.hok.fresh (Nat.le_refl _))⟩
 rcases hq with hq | hq
 ·obtain ⟨its,r',pl,hz⟩:=I.list hq
  have hlen:=r'.length
  obtain ⟨o,ho,hc,n,hd⟩:=pl.isList
  exact call_list_seq p (.inl rfl) ho hc hd (fun h' c' kp e=>fin its r' hz h' c' kp e) (by simp only [List.size_toArray] <;> omega)
 ·obtain ⟨its,r',pl,hz⟩:=I.tuple hq
  have hlen:=r'.length
  obtain ⟨o,ho,hc,n,hd⟩:=pl
  exact call_list_seq p (.inr rfl) ho hc hd (fun h' c' kp e=>fin its r' hz h' c' kp e) (by simp only [List.size_toArray] <;> omega)
theorem mi:CallR X (.type "tuple") (fun xs H Q=>∃ p ys,xs=[.ref p]∧((SqL X.K H p ys∧∀ l,H l=none→Q (.ref l) (upd H l (.tup ys)))∨(SqT X.K H p ys∧Q (.ref p) H))):=by
 intro pins s σ H xs us Q I r h
 obtain ⟨p,ys,rfl,h⟩:=h
 obtain ⟨u,rfl,rx⟩:=da r
 cases rx
 rcases h with ⟨hq,q⟩ | ⟨hq,q⟩
 ·obtain ⟨its,r',pl,hz⟩:=I.list hq
  have hlen:=r'.length
  refine call_tuple_list pl.isList (fun h' kp=>?_) (by simp only [List.size_toArray] <;> omega)
  have I1:Inv X pins σ H { s with heap:=h' }:=I.kept (t':=s.toks) kp
  have I2:Inv X pins σ (upd H h'.objs.size (.tup ys)) { s with heap:=h'.push { cls:=.type "tuple",data:=.seq its.toArray } } :=
   I1.laid (t':=s.toks) (fun b o e=>Heap.get?_push_of_some _ e) (Nat.le_refl _) (show ObjOk X.prog X.w _ _ _ (.tup ys) from ⟨hz,its,r',IsTupN.new _ _⟩)
  exact ⟨.ref h'.objs.size,_,I2,rfl,q _ (I1.hok.fresh (Nat.le_refl _))⟩
 ·obtain ⟨its,r',pl,hz⟩:=I.tuple hq
  exact call_tuple_same pl ⟨.ref p,H,I,rfl,q⟩
def tyV (K:PySem.W.Frag) (T:String) (x:V) (H:Hp):Prop:=match x with
 | .str _=>T="str"
 | .int _=>T="int"
 | .ref p=>(T="list"∧∃ xs,SqL K H p xs)∨(T="tuple"∧∃ o,K.lookup p=some o∧o.cls=.type "tuple"∧o.dict=none) ∨
   (T="dict"∧((∃ kvs,H p=some (.dK kvs))∨∃ kvs,H p=some (.dT kvs)))∨(T="set"∧∃ S n,H p=some (.set S n))
 | _=>False
theorem Dt {pins:List (Addr × Obj)} {σ:St} {H:Hp} {s:Shared} {T:String} {x:V} {v:Value} (I:Inv X pins σ H s) (r:RelV x v) (ty:tyV X.K T x H) :
  s.TypeIs v T∧∀ a,v=.ref a→∃ ob,s.heap.get? a=some ob∧ob.dict=none:=by
 cases x with
 | str z =>
  obtain ⟨t,rfl⟩:=r
  cases (show T="str" from ty)
  exact ⟨typeIs_str s z t,fun _ e=>nomatch e⟩
 | int i =>
  obtain ⟨t,rfl⟩:=r
  cases (show T="int" from ty)
  exact ⟨typeIs_int s i t,fun _ e=>nomatch e⟩
 | ref p =>
  cases r
  rcases ty with ⟨rfl,xs,hq⟩ | ⟨rfl,o,hk,hc,hd⟩ | ⟨rfl,hk⟩ | ⟨rfl,S,n,hk⟩
  ·obtain ⟨its,_,pl,_⟩:=I.list hq
   refine ⟨pl.isList.typeIs,fun a e=>?_⟩
   cases e
   obtain ⟨o,n,e,c,hd,_⟩:=pl
   exact ⟨o,e,hd⟩
  ·refine ⟨⟨o,I.kIn p o hk,hc⟩,fun a e=>?_⟩
   cases e
   exact ⟨o,I.kIn _ o hk,hd⟩
  ·have z:∃ o,s.heap.get? p=some o∧o.ExactDict:=by
    rcases hk with ⟨kvs,hk⟩ | ⟨kvs,hk⟩
    ·obtain ⟨_,_,_,_,o,_,_,e,ex,_⟩:=I.hok p _ hk
     exact ⟨o,e,ex⟩
    ·obtain ⟨_,_,_,_,o,_,_,e,ex,_⟩:=I.hok p _ hk
     exact ⟨o,e,ex⟩
   obtain ⟨o,e,ex⟩:=z
   refine ⟨⟨o,e,ex.1⟩,fun a e2=>?_⟩
   cases e2
   exact ⟨o,e,ex.2.1⟩
  ·obtain ⟨o,_,_,_,e,ex,_⟩:=I.hok p _ hk
   refine ⟨⟨o,e,ex.1⟩,fun a e2=>?_⟩
   cases e2
   exact ⟨o,e,ex.2.1⟩
 | _=>exact False.elim ty
def tBM (K:PySem.W.Frag) (T:String) (r:V→List V→Hp→VK→Prop) (to:TE) (t:TA):TE:=fun σ H Q=>to σ H fun x H1=>tyV K T x H1∧t σ H1 fun xs H2=>r x xs H2 Q
variable {o e:Expr} {es:List Expr} {to:TE} {t:TA} {name:Str} {apos cpos:Pos} {T id:String} {r:V→List V→Hp→VK→Prop}
theorem mt (pa:PlainAttrs T) (slot:Slot T name id) (hty:typeOf (.builtin id)=pure (.type "method_descriptor")) (hm:MtR X id r) (ho:PE X o to) (ha:PA X (e :: es) t)
  (hbase:attributeBase o name X.env (eval o X.env)=eval o X.env:=by rfl)
  (hfew:((backTo cpos (starEach (e :: es) X.env)).all (fun x=>!x.1) && (backToKw cpos (keywordEach [] X.env)).all (fun x=>x.1.isSome)
   && decide ((e :: es).length+([]:List Keyword).length+(if ([]:List Keyword).isEmpty then 0 else 1) < 30))=true:=by rfl)
  (hline:(apos.endLine == cpos.line)=true:=by rfl) (hs:starEach (e :: es) X.env=(false,eval e X.env) :: starEach es X.env:=by rfl) (hplain:(backTo cpos (starEach es X.env)).any (·.1)=false:=by rfl) :
  PE X (.Call (.Attribute o name apos) (e :: es) [] cpos) (tBM X.K T r to t):=by
 intro pins s σ H Q I h
 refine wpAny_Call_method_late hbase hfew hline rfl (thn (ho pins s σ H _ I h) fun v s1 ⟨x,H1,I1,r1,ty,q1⟩=>?_)
 obtain ⟨h1,h2⟩:=Dt I1 r1 ty
 refine ⟨T,id,pa,slot,hty,h1,h2,?_⟩
 have hA:=ha cpos pins s1 σ H1 _ I1 q1
 rw [hs] at hA ⊢
 refine Calls.callWith_builtin (by show (false || (backTo cpos (starEach es X.env)).any (·.1))=false; rw [hplain] <;> rfl) (Calls.evalArgs_plain ?_)
 exact thn hA fun us s2 ⟨vs,H2,I2,r2,q2⟩=>hm pins s2 σ H2 x vs v us Q I2 r1 r2 q2
end
end L2
namespace L2
open PySem PySem.Spec PyProof.Rows
def MtM (X:Cx) (id:String) (r:V→List V→Hp→VK→Prop):Prop :=
 ∀ (pins:List (Addr × Obj)) (s:Shared) (σ:St) (H:Hp) (x:V) (xs:List V) (v:Value) (us:List Value) (Q:VK),Inv X pins σ H s→RelV x v→Vals xs us→r x xs H Q →
  wpAny (model X.prog X.w) X.A (call (.builtin id) (v :: us)) (EP X pins σ Q) X.xe s
theorem Vals.one:∀ {x:V} {us:List Value},Vals [x] us→∃ u,us=[u]∧RelV x u
 | _,_,.cons r .nil=>⟨_,rfl,r⟩
theorem Vals.two {x y:V} {us:List Value} (h:Vals [x,y] us):∃ u v,us=[u,v]∧RelV x u∧RelV y v:=by
 cases h with
 | cons r t =>
  cases t with
  | cons q n =>
   cases n
   exact ⟨_,_,rfl,r,q⟩
theorem Vals.eraseIdx:∀ {xs:List V} {us:List Value} (i:Nat),Vals xs us→Vals (xs.eraseIdx i) (us.eraseIdx i)
 | _,_,_,.nil=>.nil
 | _,_,0,.cons _ t=>t
 | _,_,i+1,.cons r t=>.cons r (Vals.eraseIdx i t)
theorem lP {α:Type}:∀ (l:List α) (i:Nat),(l.eraseIdx i).length≤l.length
 | [],_=>Nat.le_refl _
 | _ :: _,0=>Nat.le_succ _
 | _ :: r,i+1=>Nat.succ_le_succ (lP r i)
section
variable {X:Cx} {pins:List (Addr × Obj)} {σ:St} {H:Hp} {s:Shared} {l b:Addr} {xs ys zs:List V}
theorem Inv.lset {its its':List Value} {n:Nat} {f:Array Value→Array Value} {t':Nat} (I:Inv X pins σ H s) (hH:H l=some (.lst xs))
  (e:s.heap.get? l=some { cls:=.type "list",data:=.seq its.toArray n }) (hf:f its.toArray=its'.toArray) (hv:Vals ys its') (hz:ys.length≤sizeLine) :
  Inv X pins σ (upd H l (.lst ys)) { s with heap:=s.heap.update l (Obj.mapSeq f),toks:=t' }:=by
 have q:=PySem.IsL.update e f
 rw [hf] at q
 refine I.write (x:=l) (e:=l) (by rw [hH]; exact trivial) (.inl rfl) (fun b' u hb hu=>(Heap.get?_update_other s.heap (Obj.mapSeq f) (Ne.symm hb)).trans hu) ⟨_,q⟩ ?_
 exact ⟨hz,its',_,hv,q⟩
theorem Inv.lnew {its:List Value} {t':Nat} (I:Inv X pins σ H s) (hv:Vals ys its) (hz:ys.length≤sizeLine) :
  Inv X pins σ (upd H s.heap.objs.size (.lst ys)) { s with heap:=s.heap.push { cls:=.type "list",data:=.seq its.toArray },toks:=t' } :=
 I.laid (fun _ _ q=>Heap.get?_push_of_some _ q) (Nat.le_refl _) ⟨hz,its,0,hv,Heap.get?_push_size _ rfl⟩
theorem Inv.fresh (I:Inv X pins σ H s):H s.heap.objs.size=none:=I.hok.fresh (Nat.le_refl _)
theorem Inv.lstM (I:Inv X pins σ H s) (hH:H l=some (.lst xs)):xs.length≤sizeLine∧∃ (its:List Value) (n:Nat),Vals xs its∧xs.length=its.length∧s.heap.get? l=some { cls:=.type "list",data:=.seq its.toArray n }:=by
 obtain ⟨z,its,n,r,e⟩:=I.hok l _ hH
 exact ⟨z,its,n,r,r.length,e⟩
theorem sK {n:Nat} (h:n≤sizeLine):Builtin.List.listTooLong n=false:=by
 unfold Builtin.List.listTooLong
 exact decide_eq_false (by omega)
end
section
variable {X:Cx}
def ou:V→List V→Hp→VK→Prop:=fun x vs H Q=>∃ l xs y,x=.ref l∧vs=[y]∧H l=some (.lst xs)∧xs.length < sizeLine∧Q .non (upd H l (.lst (xs++[y])))
theorem lL:MtM X "list.append" ou:=by
 intro pins s σ H x vs v us Q I rx rv h
 obtain ⟨l,xs,y,rfl,rfl,hH,hz,q⟩:=h
 cases rx
 obtain ⟨u,rfl,ru⟩:=rv.one
 obtain ⟨z,its,n,r,hl,e⟩:=I.lstM hH
 refine call_meets F.slot_list_append ⟨_,e,rfl⟩ F.entry_list_append (F.args_list_append_2 _ _) (PySem.list_append l its.toArray n u (by rw [List.size_toArray]; omega)) ⟨e,?_⟩
 refine ⟨.non,_,I.lset (its':=its++[u]) hH e (by simp) (r.append (.cons ru .nil)) ?_,rfl,q⟩
 rw [List.length_append,List.length_singleton]
 omega
def oq:V→List V→Hp→VK→Prop:=fun x vs H Q=>∃ l b xs zs,x=.ref l∧vs=[.ref b]∧H l=some (.lst xs)∧H b=some (.lst zs)∧xs.length+zs.length≤sizeLine∧Q .non (upd H l (.lst (xs++zs)))
theorem qS:MtM X "list.extend" oq:=by
 intro pins s σ H x vs v us Q I rx rv h
 obtain ⟨l,b,xs,zs,rfl,rfl,hH,hB,hz,q⟩:=h
 cases rx
 obtain ⟨u,rfl,ru⟩:=rv.one
 cases ru
 obtain ⟨z,its,n,r,hl,e⟩:=I.lstM hH
 obtain ⟨z2,its2,n2,r2,hl2,e2⟩:=I.lstM hB
 have hsz:its.toArray.size+its2.toArray.size≤sizeLine:=by rw [List.size_toArray,List.size_toArray]; omega
 have hlong:¬ (!its.toArray.isEmpty && Builtin.List.listTooLong (its.toArray.size+its2.toArray.size))=true:=by
  rw [sK hsz,Bool.and_false]
  exact Bool.false_ne_true
 refine call_meets F.slot_list_extend ⟨_,e,rfl⟩ F.entry_list_extend (F.args_list_extend_2 _ _)
  (AutoSeq1.list_extend_list_list_0 l its.toArray n b its2.toArray n2 hlong (by rw [List.size_toArray]; omega) (by omega)) ⟨e,e2,?_⟩
 refine ⟨.non,_,I.lset (its':=its++its2) hH e (by simp) (r.append r2) ?_,rfl,q⟩
 rw [List.length_append]
 omega
def qF:V→List V→Hp→VK→Prop:=fun x vs H Q=>∃ l xs i k y,x=.ref l∧vs=[.int i]∧H l=some (.lst xs)∧-(2 ^ 63)≤i∧i < 2 ^ 63∧seqIndex? i xs.length=some k∧xs[k]?=some y∧Q y (upd H l (.lst (xs.eraseIdx k)))
theorem sM:MtM X "list.pop" qF:=by
 intro pins s σ H x vs v us Q I rx rv h
 obtain ⟨l,xs,i,k,y,rfl,rfl,hH,h1,h2,hk,hy,q⟩:=h
 cases rx
 obtain ⟨u,rfl,ru⟩:=rv.one
 obtain ⟨t,rfl⟩:=ru
 obtain ⟨z,its,n,r,hl,e⟩:=I.lstM hH
 obtain ⟨w,hw,rw'⟩:=r.get hy
 refine call_meets F.slot_list_pop ⟨_,e,rfl⟩ F.entry_list_pop (F.args_list_pop_2 _ _)
  (MeetsSeq.list_pop_at l its.toArray n i t k w (fitsIndex_both h1 h2) (by rw [List.size_toArray,← hl]; exact hk) (by rw [← Array.getElem?_toList]; exact hw) (by rw [List.size_toArray]; omega)) ⟨e,?_⟩
 refine ⟨y,_,I.lset (its':=its.eraseIdx k) hH e ?_ (r.eraseIdx k) ?_,rw',q⟩
 ·show its.toArray.eraseIdxIfInBounds k=(its.eraseIdx k).toArray
  rw [List.eraseIdxIfInBounds_toArray]
 ·have:=lP xs k
  omega
end
section
variable {prog:Program} {w:World} {A:Around} {E:Value→Shared→Prop} {s:Shared}
end
section
variable {X:Cx}
end
end L2
namespace Att
open PySem PySem.W PySem.Calls PyProof.Rows
theorem kh {P:Params} {h:Heap}:∀ (ns:List Int) (vs:List Value),WellAll P h vs (ns.map WData.int)→IntsAre vs ns:=by
 intro ns
 induction ns with
 | nil =>
  intro vs w
  rw [List.map_nil] at w
  cases w
  exact .nil
 | cons n ns ih =>
  intro vs w
  rw [List.map_cons] at w
  cases w with
  | cons a b =>
   cases a
   exact .cons _ _ (ih _ b)
theorem qD {l:OpenLaw} {n:Nat} (hn:l.most=some n) {P:Params} {h:Heap} {args:List WData} {vals:List Value}
  (hpre:l.row.toRowW.claim.pre args=true) (hwl:WellAll P h vals args) :
  ∃ a vs ns,vals=[Value.ref a]∧args=[WData.list (ns.map WData.int)]∧h.get? a=some { cls:=.type "list",data:=.seq vs.toArray }∧IntsAre vs ns∧ns.length≤n:=by
 have hsh:WShape.hasAll [] args [.list .int]=true:=(pre_splitW hpre).1
 have hc:l.pre.holds [] { args:=args }=true:=(pre_splitW hpre).2
 obtain ⟨d,r,rfl,h1,h2⟩:=hasAllW_cons hsh
 obtain rfl:=hasAllW_nil h2
 obtain ⟨xs,rfl,h3⟩:=hasW_list h1
 obtain ⟨ns,rfl⟩:=items_int h3
 have hlen:ns.length≤n:=by
  unfold OpenLaw.pre at hc
  have h4:(WTm.not (.lt (.lit (.int (n:Int))) (.len (.arg 0)))).holds [] { args:=[.list (ns.map .int)] }=true:=by
   have h4:=(holds_andW hc).1
   rw [hn] at h4
   exact h4
  have h5:=condW_of h4 (w_not (w_lt w_lit (w_len_list (w_arg rfl))))
  rw [List.length_map] at h5
  refine Nat.le_of_not_lt fun q=>?_
  have q':(n:Int) < ((ns.length:Nat):Int):=by omega
  first
   | (rw [decide_eq_true q'] at h5; exact absurd h5 (by decide))
   | (simp at h5; omega)
 cases hwl with
 | cons w1 w2 =>
  cases w2
  cases w1 with
  | list ho hall=>exact ⟨_,_,ns,rfl,rfl,ho,kh ns _ hall,hlen⟩
theorem qI (l:OpenLaw) (args:List WData):l.row.toRowW.claim.post args (.bool true) args=true :=
 postW_of (r:=l.row.toRowW) (X:=(true == true))
  (show WShape.has [] (.bool true) .bool=true by first | rfl | decide | simp [WShape.has,WShape.arms,WShape.armsAll])
  (show (WTm.eq .res (.lit (.bool true))).value [] { args:=args,res:=some (.bool true),after:=args }=some (.bool (true == true)) from w_eq_bool (w_res rfl) w_lit) rfl
theorem attach_call {l:OpenLaw} {n:Nat} {q:Program} {loose:List Str} {XP:(Str→Option Value)→Heap→Prop} {YP:World→Heap→Prop} {d:DefRec}
  (hn:l.most=some n) (hdf:d.params.defaults=[])
  (call:∀ (w:World) (s₀ s₁:Shared) (mg mb:Str→Option Value) (fa:Addr) (o:Obj) (pm cd doc:Value) (a:Addr) (vs:List Value) (ns:List Int),
   Ground q loose [] XP w s₀ mg mb s₁.heap→YP w s₁.heap →
   s₁.heap.get? fa=some o→o.data=.func (docDef d.name d.params d.body d.scope pm cd doc)→s₁.heap.CodeRec cd d.name→mg d.name=some (.ref fa) →
   s₁.heap.get? a=some { cls:=.type "list",data:=.seq vs.toArray }→IntsAre vs ns→ns.length≤n→s₁.gens=#[] →
   codeAny (model l.prog w) callerA (.call (.ref fa) ⟨[.ref a],[]⟩) (fun r s'=>r=.ok (.ret (.bool true))∧OldK s₁.heap s'.heap∧s'.os=s₁.os∧AllBare s'.gens) s₁) :
  WalkO q loose XP YP l.row.toRowW d [] (fun f vs=>PySem.call f vs):=by
 intro w s₀ s₁ mg mb G Y fa o pm cd doc dV kV ho hd hcd hD hmg hg args vals as hpre hlay hrd hwl hlo
 obtain rfl:dV=.none:=Dflts.none hD hdf
 obtain rfl:kV=.none:=Dflts.noKw hD
 obtain ⟨a,vs,ns,rfl,rfl,hobj,hints,hlen⟩:=qD hn hpre hwl
 refine enter_call (codeAny_mono (call w s₀ s₁ mg mb fa o pm cd doc a vs ns G Y ho (fd_plain hd) hcd hmg hobj hints hlen hg) fun r s' hq=>?_)
 obtain ⟨rfl,h2,h3,h4⟩:=hq
 exact ⟨.inl ⟨.bool true,.bool true,[],rfl,fun _=>rfl,.bool true,qI l _,fun _=>⟨List.Pairwise.nil,fun _ hm=>(nomatch hm)⟩⟩,h2,h3,h4⟩
section
variable {prog:Program} {w:World} {A:Around} {E:Value→Shared→Prop} {s:Shared} {K:Frag}
end
end Att
namespace L2
open PySem PySem.Spec PyProof.Rows
theorem lE:∀ {vs:List Value} {ns:List Int},IntsAre vs ns→Vals (ns.map V.int) vs
 | _,_,.nil=>.nil
 | _,_,.cons n t h=>.cons ⟨t,rfl⟩ (lE h)
def ug (H:Hp):Prop:=∀ b,H b=none∨∃ o xs,H b=some (.frz o (.lst xs))
theorem sR {P:Program} {w:World} {K:PySem.W.Frag} {mg mb:Str→Option Value} {CX:CXT} {k:Nat} {fa a:Addr} {fd:FuncData} {x:Str} {sp:Sp} {s₁:Shared} {vs:List Value} {ns:List Int}
  (KX:K.In s₁.heap) (hns:s₁.heap.Ns mainGlobals mg) (hb:s₁.heap.Ns builtinsNs mb) (hbb:∀ x:Str,x≠"__name__"→mb x=bootBuiltins x) (hlim:s₁.heap.NoLimit) (hmods:∃ mm,s₁.heap.Ns sysModules mm) (hg:s₁.gens=#[])
  (ha:s₁.heap.get? a=some { cls:=.type "list",data:=.seq vs.toArray }) (hi:IntsAre vs ns) (hl:ns.length≤sizeLine) (hr:Room k callerA)
  (F:∀ base:Heap,K.In base→base.Ns mainGlobals mg→FnOk P w K mg base CX k fa fd [x] sp) (hbind:∀ (s:Shared) (u:Value),BindsTo s fd ⟨[u],[]⟩ [(x,u)])
  (hsp:∀ H:Hp,ug H→SqL K H a (ns.map V.int)→sp [.ref a] H (fun v _=>v=.bl true) fun _ _ _=>False)
  (hCX:∀ H e s',CX [] H s₁ (fun _ _ _=>False) e s'→False) :
  codeAny (model P w) callerA (.call (.ref fa) ⟨[.ref a],[]⟩) (fun r s'=>r=.ok (.ret (.bool true))∧OldK s₁.heap s'.heap∧s'.os=s₁.os∧AllBare s'.gens) s₁:=by
 have rv:=lE hi
 have lenV:=hi.length
 have core:∀ H:Hp,ug H→SqL K H a (ns.map V.int)→HOk P w H s₁.heap→(∀ b,H b≠none→b=a)→(H a≠none→K.lookup a=none) →
   codeAny (model P w) callerA (.call (.ref fa) ⟨[.ref a],[]⟩) (fun r s'=>r=.ok (.ret (.bool true))∧OldK s₁.heap s'.heap∧s'.os=s₁.os∧AllBare s'.gens) s₁:=by
  intro H hO hS hok hA hK
  have base_of:∀ {b:Addr} {o:Obj},s₁.heap.get? b=some o→H b=none→(fP s₁.heap H).get? b=some o:=fun e n=>ni e n
  have noA:∀ {b:Addr} {o:Obj} {es:Array DictEntry} {ep:Nat},s₁.heap.get? b=some o→o.data=.dict es ep→H b=none:=fun {b o es ep} e d=>by
   cases q:H b with
   | none=>rfl
   | some u =>
    have e':b=a:=hA b (by rw [q]; simp)
    subst e'
    rw [ha] at e; cases e
    have d':Data.seq vs.toArray _=Data.dict es ep:=d
    cases d'
  have nsK:∀ {b:Addr} {m:Str→Option Value},s₁.heap.Ns b m→(fP s₁.heap H).Ns b m:=fun {b m} ⟨o,es,ep,e,d,r⟩=>⟨o,es,ep,base_of e (noA e d),d,r⟩
  have hKb:K.In (fP s₁.heap H):=fun b o e=>base_of (KX b o e) (by
   cases q:H b with
   | none=>rfl
   | some u =>
    have e':b=a:=hA b (by rw [q]; simp)
    subst e'
    rw [hK (by rw [q]; simp)] at e; cases e)
  have hM:Mod K mg (fP s₁.heap H):=⟨hKb,nsK hns,⟨mb,nsK hb,hbb⟩,let ⟨mc,h1,h2⟩:=hlim; ⟨mc,nsK h1,h2⟩,let ⟨mm,h1⟩:=hmods; ⟨mm,nsK h1⟩⟩
  have e0:Env0 P w K mg (fP s₁.heap H) callerA [] s₁ H:=⟨rfl,hM,fun b o e=>oB e,Nat.le_of_eq (rm _ _),trivial,fun b hb=>absurd (show b∈([]:List Addr) from hb) (by simp),hok,.of_eq hg⟩
  refine codeAny_mono ((F _ hKb (nsK hns)).run callerA [] s₁ H ⟨[.ref a],[]⟩ [.ref a] [.ref a] _ _ hr e0 (hbind s₁ (.ref a)) (.cons rfl .nil) (hsp H hO hS)) fun r s' h=>?_
  cases r with
  | error e=>exact (hCX H e s' h).elim
  | ok fl =>
   cases fl with
   | next=>exact False.elim h
   | brk=>exact False.elim h
   | cont=>exact False.elim h
   | ret u =>
    obtain ⟨v,H',os,bare,un,hok',r',q⟩:=h
    have q':v=.bl true:=q
    subst q'
    obtain rfl:u=Value.bool true:=r'
    refine ⟨rfl,OldK.of_keep fun b o e=>?_,os,bare⟩
    cases q:H b with
    | none=>exact un.keep b o e q (by intro z; exact absurd (show b∈([]:List Addr) from z) (by simp)) (by simp)
    | some u =>
     rcases hO b with z | ⟨ob,xs,z⟩
     ·rw [q] at z; cases z
     ·have z2:=un.frzs b ob _ z
      obtain ⟨e1,_⟩:=hok b _ z
      obtain ⟨e2,_⟩:=hok' b _ z2
      rw [e] at e1; cases e1
      exact e2
 cases hk:K.lookup a with
 | some o =>
  have e:=KX a o hk
  rw [ha] at e
  cases e
  refine core (fun _=>none) (fun _=>.inl rfl) (.inr ⟨_,vs.toArray,_,hk,rfl,rfl,rfl,by rw [List.size_toArray,lenV]; exact hl,by simpa using rv⟩) (fun b u z=>by have z':(none:Option HO)=some u:=z; cases z') (fun b z=>absurd rfl z) fun z=>absurd rfl z
 | none =>
  refine core (fun b=>if b=a then some (.frz { cls:=.type "list",data:=.seq vs.toArray } (.lst (ns.map V.int))) else none) (fun b=>?_) (.inl (.inr ⟨{ cls:=.type "list",data:=.seq vs.toArray },if_pos rfl⟩)) (fun b u z=>?_) (fun b z=>?_) fun _=>hk
  ·by_cases hb:b=a
   ·exact .inr ⟨_,_,if_pos hb⟩
   ·exact .inl (if_neg hb)
  ·by_cases hb:b=a
   ·have z':=(if_pos hb).symm.trans z
    cases z'
    subst hb
    exact ⟨ha,by rw [List.length_map]; exact hl,vs,_,rv,ha⟩
   ·have z':=(if_neg hb).symm.trans z
    cases z'
  ·by_cases hb:b=a
   ·exact hb
   ·exact absurd (if_neg hb) z
end L2
namespace L2
open PySem PySem.Spec PyProof.Rows
theorem walk_of {l:PySem.W.OpenLaw} {n k:Nat} {q:Program} {loose:List Str} {XP:(Str→Option Value)→Heap→Prop} {YP:World→Heap→Prop} {d:DefRec} {K:Params→PySem.W.Frag} {CX:World→CXT} {sp:World→Sp} {x:Str}
  (hn:l.most=some n) (hn2:n≤sizeLine) (hdf:d.params.defaults=[]) (hr:Room k callerA)
  (hq:importsNone q=true) (hY:∀ (w:World) (h:Heap),YP w h→(K w.params).In h)
  (F:∀ (w:World) (mg:Str→Option Value) (fa:Addr) (h:Heap),(K w.params).In h→h.Ns mainGlobals mg→mg d.name=some (.ref fa) →
   ∃ fd:FuncData,(∀ (s:Shared) (u:Value),BindsTo s fd ⟨[u],[]⟩ [(x,u)]) ∧
    ∀ base:Heap,(K w.params).In base→base.Ns mainGlobals mg→FnOk l.prog w (K w.params) mg base (CX w) k fa fd [x] (sp w))
  (hsp:∀ (w:World) (H:Hp) (a:Addr) (ns:List Int),ns.length≤n→ug H→SqL (K w.params) H a (ns.map V.int)→sp w [.ref a] H (fun v _=>v=.bl true) fun _ _ _=>False)
  (hCX:∀ (w:World) (H:Hp) (s:Shared) (e:Value) (s':Shared),CX w [] H s (fun _ _ _=>False) e s'→False) :
  PySem.W.WalkO q loose XP YP l.row.toRowW d [] (fun f vs=>PySem.call f vs):=by
 refine Att.attach_call hn hdf fun w s₀ s₁ mg mb fa o pm cd doc a vs ns G Y ho hd hcd hmg hobj hints hlen hg=>?_
 have KX:=hY w _ Y
 obtain ⟨fd,hb,hF⟩:=F w mg fa _ KX G.T.g hmg
 exact sR KX G.T.g G.T.b G.T.builtins G.T.nolimit (let ⟨mm,hm,_⟩:=(G.T.seer hq).mods; ⟨mm,hm⟩) hg hobj hints (Nat.le_trans hlen hn2) hr hF hb (fun H hO hS=>hsp w H a ns hlen hO hS) fun H e s'=>hCX w H s₁ e s'
end L2
namespace L2
open PySem PySem.Spec PyProof.Rows
def cM (s:Stmt):Arguments:=match s with
 | .FunctionDef _ a _ _ _ _ _ _ _ _=>a
 | _=>{ posonlyargs:=[],args:=[],vararg:=none,kwonlyargs:=[],kw_defaults:=[],kwarg:=none,defaults:=[] }
def bO (s:Stmt):List Stmt:=match s with
 | .FunctionDef _ _ b _ _ _ _ _ _ _=>b
 | _=>[]
def am (s:Stmt):Scope:=match s with
 | .FunctionDef _ _ _ _ _ _ sc _ _ _=>sc
 | _=>{ kind:=.function,names:=[],isGenerator:=false,isCoroutine:=false }
abbrev CX0:CXT:=fun _ _ _ _ _ _=>False
abbrev E0:XK:=fun _ _ _=>False
theorem FO {X:Cx}:nL CX0 X E0:=fun _ _ _ _ _ _ _ h=>h.elim
structure Fun (K:PySem.W.Frag) (x qual:Str) (st:Stmt) (f:Addr) (fd:FuncData):Prop where
 ex:∃ (oc:Value) (od:Option Addr) (kV doc pm:Value) (an:Option Addr) (cdv ct:Value) (osl:Array (Option Value)),
  fd=PySem.W.fnOf x qual (cM st) (bO st) (am st) .none kV doc pm an cdv ct∧K.lookup f=some ⟨oc,od,.func fd,osl⟩∧PySem.W.codeIn K cdv qual=true
 kp:PySem.W.keepIn K (.ref f)=true
section
variable {P:Program} {w:World} {K:PySem.W.Frag} {mg:Str→Option Value} {base:Heap}
theorem Fun.ok {x qual:Str} {st:Stmt} {f:Addr} {fd:FuncData} {N ps:List Str} {k:Nat} {sp:Sp} (F:Fun K x qual st f fd) (S:FnScope N ps (am st)) (len:∀ vs H Q E,sp vs H Q E→vs.length=ps.length)
  (hbody:∀ (cdv:Value) (A:Around) (outer:List Env) (s:Shared) (H:Hp) (vs:List V) (Q:VK) (E:XK),Room k (A.deeper (envOfC qual (am st) s.heap.objs.size f cdv))→sp vs H Q E →
   ∃ t,PSs (gX CX0 P w K mg base N qual (am st) f cdv A outer s H E).nox (bO st) t∧t { nx:=fun _ H'=>Q .non H',rt:=Q } (bX N vs) H):FnOk P w K mg base CX0 (k+1) f fd ps sp:=by
 obtain ⟨oc,od,kV,doc,pm,an,cdv,ct,osl,rfl,lk,hcd⟩:=F.ex
 refine zW lk hcd S len fun A outer s H vs Q E hr hsp=>?_
 obtain ⟨t,h,q⟩:=hbody cdv A outer s H vs Q E hr hsp
 exact ⟨t,h.nox,q⟩
theorem Fun.binds {x qual:Str} {st:Stmt} {f:Addr} {fd:FuncData} {ps:List Str} (F:Fun K x qual st f fd)
  (h:∀ (kV doc pm:Value) (an:Option Addr) (cdv ct:Value) (us:List Value),us.length=ps.length→bindArgs (PySem.W.fnOf x qual (cM st) (bO st) (am st) .none kV doc pm an cdv ct) ⟨us,[]⟩=pure (ps.zip us)):Binds K fd ps []:=by
 obtain ⟨oc,od,kV,doc,pm,an,cdv,ct,osl,rfl,lk,hcd⟩:=F.ex
 exact .all (h kV doc pm an cdv ct)
theorem no {x qual:Str} {st:Stmt} {f:Addr} {oc:Value} {od an:Option Addr} {osl:Array (Option Value)} {kV doc pm cdv ct:Value} (l:K.lookup f=some ⟨oc,od,.func (PySem.W.fnOf x qual (cM st) (bO st) (am st) .none kV doc pm an cdv ct),osl⟩)
  (c:PySem.W.codeIn K cdv qual=true) (k:PySem.W.keepIn K (.ref f)=true):Fun K x qual st f (PySem.W.fnOf x qual (cM st) (bO st) (am st) .none kV doc pm an cdv ct):=⟨⟨oc,od,kV,doc,pm,an,cdv,ct,osl,rfl,l,c⟩,k⟩
end
theorem fI {A:Around} {k:Nat} (hr:Room k A):A.units+1 < cLine:=Nat.lt_of_le_of_lt (Nat.add_le_add_left (by decide:1≤64) _) hr.units
section
variable {X:Cx}
end
end L2
namespace L2
open PySem PySem.Spec PyProof.Rows
section
variable {κ:Type} [DecidableEq κ]
def di (kvs:List (κ × V)) (k:κ):Option V:=(kvs.find? fun kv=>decide (kv.1=k)).map (·.2)
def cc (kvs:List (κ × V)) (k:κ) (v:V):List (κ × V) :=
 if (kvs.any fun kv=>decide (kv.1=k))=true then kvs.map (fun kv=>if kv.1=k then (kv.1,v) else kv) else kvs++[(k,v)]
theorem gy {p:κ × V} {r:List (κ × V)} {k:κ} (e:p.1=k):di (p :: r) k=some p.2:=by simp [di,List.find?_cons,e]
theorem gz {p:κ × V} {r:List (κ × V)} {k:κ} (e:¬ p.1=k):di (p :: r) k=di r k:=by simp [di,List.find?_cons,e]
theorem mF (k:κ):∀ kvs:List (κ × V),(kvs.any fun kv=>decide (kv.1=k))=(di kvs k).isSome
 | []=>rfl
 | p :: r=>by
  rw [List.any_cons]
  by_cases e:p.1=k
  ·simp only [gy e,decide_eq_true e,Bool.true_or,Option.isSome_some]
  ·rw [gz e,decide_eq_false e,Bool.false_or]; exact mF k r
theorem fO (kvs:List (κ × V)) (k:κ) (v:V):(cc kvs k v).length≤kvs.length+1:=by
 unfold cc
 split
 ·rw [List.length_map]; omega
 ·rw [List.length_append,List.length_cons,List.length_nil]; omega
theorem RelO.isSome_eq {o:Option V} {u:Option Value} (r:RelO o u):o.isSome=u.isSome:=by
 cases o with
 | none=>cases u with
  | none=>rfl
  | some _=>exact (show False from r).elim
 | some _=>cases u with
  | none=>exact (show False from r).elim
  | some _=>rfl
theorem KV.val {kvs:List (κ × V)} {vs:List (κ × Value)} (r:KV kvs vs) (k:κ):RelO (di kvs k) (valueAt vs k):=by
 unfold KV at r
 induction r with
 | nil=>exact True.intro
 | @cons p q ps qs h t ih =>
  obtain ⟨h1,h2⟩:=h
  by_cases e:p.1=k
  ·have e':q.1=k:=h1.symm.trans e
   have b:valueAt (q :: qs) k=some q.2:=by simp [valueAt,List.find?_cons,e']
   rw [gy e,b]; exact h2
  ·have e':¬ q.1=k:=fun z=>e (h1.trans z)
   have b:valueAt (q :: qs) k=valueAt qs k:=by simp [valueAt,List.find?_cons,e']
   rw [gz e,b]; exact ih
theorem KV.any {kvs:List (κ × V)} {vs:List (κ × Value)} (r:KV kvs vs) (k:κ):(kvs.any fun kv=>decide (kv.1=k))=vs.any fun kv=>decide (kv.1=k):=by
 unfold KV at r
 induction r with
 | nil=>rfl
 | cons h t ih=>rw [List.any_cons,List.any_cons,ih,h.1]
theorem KV.repl {kvs:List (κ × V)} {vs:List (κ × Value)} (r:KV kvs vs) (k:κ) {y:V} {u:Value} (ry:RelV y u) :
  KV (kvs.map fun kv=>if kv.1=k then (kv.1,y) else kv) (vs.map fun kv=>if kv.1=k then (kv.1,u) else kv):=by
 unfold KV at r ⊢
 induction r with
 | nil=>exact .nil
 | @cons p q ps qs h t ih =>
  rw [List.map_cons,List.map_cons]
  refine .cons ?_ ih
  obtain ⟨h1,h2⟩:=h
  by_cases e:p.1=k
  ·rw [if_pos e,if_pos (h1.symm.trans e)]; exact ⟨h1,ry⟩
  ·rw [if_neg e,if_neg (fun z=>e (h1.trans z))]; exact ⟨h1,h2⟩
theorem KV.put {kvs:List (κ × V)} {vs:List (κ × Value)} (r:KV kvs vs) (k:κ) {y:V} {u:Value} (ry:RelV y u):KV (cc kvs k y) (stored vs k u):=by
 unfold cc stored
 rw [r.any k]
 by_cases e:(vs.any fun kv=>decide (kv.1=k))=true
 ·rw [if_pos e,if_pos e]; exact r.repl k ry
 ·rw [if_neg e,if_neg e]; exact Paired.snoc r ⟨rfl,ry⟩
theorem KV.length {kvs:List (κ × V)} {vs:List (κ × Value)} (r:KV kvs vs):kvs.length=vs.length:=Paired.length r
end
theorem mw {P:Program} {w:World} {k:Key} {u:Value} (r:RelV (kV k) u):(bn P w).is k u=true:=by
 cases k with
 | inl i=>obtain ⟨t,e⟩:=(show ∃ t,u=Value.int i t from r); subst e; exact nY P w i t
 | inr x=>obtain ⟨t,e⟩:=(show ∃ t,u=Value.str x t from r); subst e; exact nX P w x t
theorem Ej {a b:Key} (e:kV a=kV b):a=b:=by
 cases a with
 | inl i=>cases b with
  | inl j=>have e':V.int i=V.int j:=e; injection e' with e'; rw [e']
  | inr y=>exact nomatch (show V.int i=V.str y from e)
 | inr x=>cases b with
  | inl j=>exact nomatch (show V.str x=V.int j from e)
  | inr y=>have e':V.str x=V.str y:=e; injection e' with e'; rw [e']
theorem lR {P:Program} {w:World}:∀ {ks:List Key} {us:List Value},Vals (ks.map kV) us→ItemsAre (bn P w) ks us
 | [],_,r=>by rw [List.map_nil] at r; cases r; exact .nil
 | k :: ks,_,r=>by
  rw [List.map_cons] at r
  cases r with
  | cons h t=>exact .cons (mw h) (lR t)
abbrev KT (H:Hp):List (List Key × V)→List (List Key × Addr × Value)→Prop:=Paired fun p q=>p.1=q.1∧H q.2.1=some (.tup (p.1.map kV))∧RelV p.2 q.2.2
theorem KT.val {H:Hp} {kvs:List (List Key × V)} {xs:List (List Key × Addr × Value)} (r:KT H kvs xs) (k:List Key):RelO (di kvs k) ((atKey xs k).map (·.2)):=by
 induction r with
 | nil=>exact True.intro
 | @cons p q ps qs h t ih =>
  obtain ⟨h1,_,h2⟩:=h
  by_cases e:p.1=k
  ·have e':q.1=k:=h1.symm.trans e
   have b:atKey (q :: qs) k=some q.2:=by simp [atKey,List.find?_cons,e']
   rw [gy e,b]; exact h2
  ·have e':¬ q.1=k:=fun z=>e (h1.trans z)
   have b:atKey (q :: qs) k=atKey qs k:=by simp [atKey,List.find?_cons,e']
   rw [gz e,b]; exact ih
theorem KT.repl {H:Hp} {kvs:List (List Key × V)} {xs:List (List Key × Addr × Value)} (r:KT H kvs xs) (k:List Key) {y:V} {u:Value} (ry:RelV y u) :
  KT H (kvs.map fun kv=>if kv.1=k then (kv.1,y) else kv) (xs.map (putAt k u)):=by
 induction r with
 | nil=>exact .nil
 | @cons p q ps qs h t ih =>
  rw [List.map_cons,List.map_cons]
  refine .cons ?_ ih
  obtain ⟨h1,h2,h3⟩:=h
  unfold putAt
  by_cases e:p.1=k
  ·rw [if_pos e,if_pos (h1.symm.trans e)]; exact ⟨h1,h2,ry⟩
  ·rw [if_neg e,if_neg (fun z=>e (h1.trans z))]; exact ⟨h1,h2,h3⟩
theorem KT.put {H:Hp} {kvs:List (List Key × V)} {xs:List (List Key × Addr × Value)} (r:KT H kvs xs) (k:List Key) {b:Addr} {y:V} {u:Value} (hb:H b=some (.tup (k.map kV))) (ry:RelV y u) :
  KT H (cc kvs k y) (storedH xs k b u):=by
 have e:(kvs.any fun kv=>decide (kv.1=k))=(atKey xs k).isSome:=by
  rw [mF,(r.val k).isSome_eq,Option.isSome_map]
 unfold cc storedH
 rw [e]
 by_cases q:(atKey xs k).isSome=true
 ·rw [if_pos q,if_pos q]; exact r.repl k ry
 ·rw [if_neg q,if_neg q]; exact Paired.snoc r ⟨rfl,hb,ry⟩
theorem KT.keeps {H H':Hp} {kvs:List (List Key × V)} {xs:List (List Key × Addr × Value)} (r:KT H kvs xs) (ht:∀ b ys,H b=some (.tup ys)→H' b=some (.tup ys)):KT H' kvs xs :=
 Paired.mapP r fun _ _ z=>⟨z.1,ht _ _ z.2.1,z.2.2⟩
section
variable {P:Program} {w:World} {H:Hp} {h:Heap} {a:Addr}
theorem zz {u:HO} (ok:HOk P w H h) (e:Rd H a u):ObjOk P w H h a u:=e.ok ok
theorem p0 {kvs:List (Key × V)} (ok:HOk P w H h) (e:Rd H a (.dK kvs)):kvs.length≤sizeLine∧(a == sysModules)=false∧∃ vs,KV kvs vs∧h.DictOf (bn P w) a vs :=
 show ObjOk P w H h a (.dK kvs) from zz ok e
theorem p5 {kvs:List (Key × V)} (ok:HOk P w H h) (e:H a=some (.dK kvs)):kvs.length≤sizeLine∧(a == sysModules)=false∧∃ vs,KV kvs vs∧h.DictOf (bn P w) a vs:=p0 ok (.inl e)
theorem m7 {ks:List Key} (ok:HOk P w H h) (e:H a=some (.tup (ks.map kV))):(tupleKind (bn P w)).is h ks a:=by
 obtain ⟨_,its,r,o,h1,h2,n,h3⟩:=(show ObjOk P w H h a (.tup (ks.map kV)) from ok a _ e)
 exact ⟨o,its.toArray,n,h1,h2,h3.1,by simpa using lR r⟩
theorem pZ {kvs:List (List Key × V)} (ok:HOk P w H h) (e:Rd H a (.dT kvs)):kvs.length≤sizeLine∧(a == sysModules)=false ∧
  ∃ xs,KT H kvs xs∧h.DictOfH (tupleKind (bn P w)) a xs:=by
 obtain ⟨z,y,xs,r,o,es,ep,h1,h2,h3,h4,h5⟩:=(show ObjOk P w H h a (.dT kvs) from zz ok e)
 refine ⟨z,y,xs,r,o,es,ep,h1,h2,h3,h4,fun x hx=>?_,h5⟩
 have all:∀ {l:List (List Key × V)} {m:List (List Key × Addr × Value)},KT H l m→∀ x∈m,(tupleKind (bn P w)).is h x.1 x.2.1:=by
  intro l m q
  induction q with
  | nil=>intro x hx; exact nomatch hx
  | @cons p q ps qs hq t ih =>
   intro x hx
   rcases List.mem_cons.mp hx with e | hx
   ·subst e
    exact m7 ok (by rw [← hq.1]; exact hq.2.1)
   ·exact ih x hx
 exact all r x hx
theorem zY {kvs:List (List Key × V)} (ok:HOk P w H h) (e:H a=some (.dT kvs)):kvs.length≤sizeLine∧(a == sysModules)=false ∧
  ∃ xs,KT H kvs xs∧h.DictOfH (tupleKind (bn P w)) a xs:=pZ ok (.inl e)
end
def DGet (H:Hp) (a:Addr) (y:V) (r:Option V):Prop :=
 (∃ kvs k,Rd H a (.dK kvs)∧y=kV k∧r=di kvs k)∨∃ kvs k b,Rd H a (.dT kvs)∧y=.ref b∧H b=some (.tup (k.map kV))∧r=di kvs k
def DPut (H:Hp) (a:Addr) (y v:V) (H':Hp):Prop :=
 (∃ kvs k,H a=some (.dK kvs)∧y=kV k∧kvs.length < sizeLine∧H'=upd H a (.dK (cc kvs k v))) ∨
 ∃ kvs k b,H a=some (.dT kvs)∧y=.ref b∧H b=some (.tup (k.map kV))∧kvs.length < sizeLine∧H'=upd H a (.dT (cc kvs k v))
theorem DGet.k {H:Hp} {a:Addr} {kvs:List (Key × V)} {k:Key} (e:H a=some (.dK kvs)):DGet H a (kV k) (di kvs k):=.inl ⟨kvs,k,.inl e,rfl,rfl⟩
theorem DPut.k {H:Hp} {a:Addr} {kvs:List (Key × V)} {k:Key} {v:V} (e:H a=some (.dK kvs)) (hl:kvs.length < sizeLine):DPut H a (kV k) v (upd H a (.dK (cc kvs k v))):=.inl ⟨kvs,k,e,rfl,hl,rfl⟩
section
variable {X:Cx} {pins:List (Addr × Obj)} {σ:St} {H:Hp} {s:Shared} {a:Addr} {y v:V} {u r:Value} {o:Option V} {A:Around} {E:Value→Shared→Prop}
theorem Inv.big (I:Inv X pins σ H s):sysModules < s.heap.objs.size:=by
 have h:mainGlobals < s.heap.objs.size:=(I.mod.glob.keeps I.bk).lt
 exact Nat.lt_trans (by decide) h
theorem rS {Q:Value→Shared→Prop} (hu:A.units+1 < cLine) (I:Inv X pins σ H s) (g:DGet H a y (some v)) (ry:RelV y u) (h:∀ w' s',Inv X pins σ H s'→RelV v w'→Q w' s') :
  wpAny (model X.prog X.w) A (getItem (.ref a) u) Q E s:=by
 rcases g with ⟨kvs,k,e,ey,l⟩ | ⟨kvs,k,b,e,ey,eb,l⟩
 ·subst ey
  obtain ⟨z,hd,vs,rel,dd⟩:=p0 I.hok e
  obtain ⟨w',hw,rw'⟩:=RelO.some_of (v:=v) (o:=valueAt vs k) (by rw [l]; exact rel.val k)
  exact wpAny_getItem_of (mw ry) dd.mapOf hw (h w' _ (I.tok _) rw')
 ·subst ey
  cases (show u=Value.ref b from ry)
  obtain ⟨z,hd,xs,rel,dd⟩:=pZ I.hok e
  obtain ⟨w',hw,rw'⟩:=RelO.some_of (v:=v) (o:=(atKey xs k).map (·.2)) (by rw [l]; exact rel.val k)
  obtain ⟨p,hp,hp2⟩:=Option.map_eq_some_iff.mp hw
  refine wpAny_getItem_heap (tupleKind_room_in1 hu) (m7 I.hok eb) dd hp ?_
  rw [hp2]
  exact h w' _ (I.tok _) rw'
theorem ld {h':Heap} {t':Nat} {ob:HO} (I:Inv X pins σ H s) (mu:Mut (H a)) (hs:Heap.SameBut a s.heap h') (he:∃ q,h'.get? a=some q) (new:ObjOk X.prog X.w (upd H a ob) h' a ob) :
  Inv X pins σ (upd H a ob) { s with heap:=h',toks:=t' } :=
 I.write (x:=a) (e:=a) mu (.inl rfl) (fun b q hb z=>(hs.2 b hb).trans z) he new
theorem rQ {P:Program} {w:World} {H':Hp} {h':Heap} {kvs:List (Key × V)} {vs:List (Key × Value)} (z:kvs.length≤sizeLine) (hd:(a == sysModules)=false) (rel:KV kvs vs) (dd:h'.DictOf (bn P w) a vs) :
  ObjOk P w H' h' a (.dK kvs):=⟨z,hd,vs,rel,dd⟩
theorem rR {H':Hp} {Q:Unit→Shared→Prop} (hu:A.units+1 < cLine) (I:Inv X pins σ H s) (g:DPut H a y v H') (ry:RelV y u) (rv:RelV v r) (h:∀ s',Inv X pins σ H' s'→Q () s') :
  wpAny (model X.prog X.w) A (setItem (.ref a) u r) Q E s:=by
 rcases g with ⟨kvs,k,e,ey,l,eH⟩ | ⟨kvs,k,b,e,ey,eb,l,eH⟩
 ·subst ey eH
  obtain ⟨z,hd,vs,rel,dd⟩:=p5 I.hok e
  have hz:vs.length≤sizeLine:=by rw [← rel.length]; exact z
  have hl:(cc kvs k v).length≤sizeLine:=by have:=fO kvs k v; omega
  refine wpAny_setItem_pairs (hsz:=hz) (mw ry) dd fun h' dd' hs=>h _ ?_
  have he:∃ q,h'.get? a=some q:=let ⟨q,_,_,hq,_⟩:=dd'; ⟨q,hq⟩
  exact ld I (by rw [e]; exact True.intro) hs he (rQ hl hd (rel.put k rv) dd')
 ·subst ey eH
  cases (show u=Value.ref b from ry)
  obtain ⟨z,hd,xs,rel,dd⟩:=zY I.hok e
  have hz:xs.length≤sizeLine:=by rw [← Paired.length rel]; exact z
  have hl:(cc kvs k v).length≤sizeLine:=by have:=fO kvs k v; omega
  refine wpAny_setItem_heap (hsz:=hz) (tupleKind_room_in1 hu) (m7 I.hok eb) dd fun h' dd' hs=>h _ ?_
  obtain ⟨q,es,ep,hq,h2,h3,h4,_,h5⟩:=dd'
  refine ld I (by rw [e]; exact True.intro) hs ⟨q,hq⟩ ⟨hl,hd,_,(rel.put k eb rv).keeps fun c ys ec=>?_,q,es,ep,hq,h2,h3,h4,h5⟩
  rw [aF (FV ec e (fun z=>nomatch z))]
  exact ec
end
section
variable {X:Cx} {pins:List (Addr × Obj)} {σ:St} {H:Hp} {s:Shared} {a:Addr} {kvs:List (Key × V)} {k:Key} {u:Value} {A:Around} {E:Value→Shared→Prop}
end
def qc (i:Expr):Prop:=∀ ov iv,subscripted i false ov iv=operate [ov,iv] (getItem ov iv)
theorem Af {prog:Program} {w:World} {A:Around} {E:Value→Shared→Prop} {s:Shared} {env:Env} {value slice:Expr} {pos:Pos} {T id:String} {Q:Value→Shared→Prop}
  (hl:typeLookup (.type T) "__getitem__"=pure (some (.builtin id))) (hs:qc slice)
  (h:wpAny (model prog w) A (eval value env) (fun o s₁=>wpAny (model prog w) A (eval slice env) (fun i s₂=>s₂.TypeIs o T∧wpAny (model prog w) A (getItem o i) Q E s₂) E s₁) E s) :
  wpAny (model prog w) A (eval (.Subscript value slice pos) env) Q E s:=by
 refine Subscript_ (wpAny_mono h (fun o s₁ h₁=>wpAny_mono h₁ (fun i s₂ h₂=>?_) fun _ _ x=>x) fun _ _ x=>x)
 obtain ⟨hT,h₂⟩:=h₂
 unfold subscriptTail
 refine wpAny_bind ?_
 rw [getitemInPython_of_ne hT.not_modules]
 refine wpAny_bind (wpAny_specialOf hT hl ?_)
 have fin:wpAny (model prog w) A (subscripted slice false o i) (fun r s₃=>wpAny (model prog w) A (letTemporaryGo value o r >>= fun _=>pure r) Q E s₃) E s₂:=by
  rw [hs o i]
  exact wpAny_operating (wpAny_mono h₂ (fun r s₃ h₃=>wpAny_bind (wpAny_letTemporaryGo (wpAny_pure h₃))) fun _ _ x=>x)
 first
  | exact wpAny_pure (wpAny_bind fin)
  | exact wpAny_bind (wpAny_pure (wpAny_bind fin))
  | exact wpAny_bind fin
theorem n5 {X:Cx} {pins:List (Addr × Obj)} {σ:St} {H:Hp} {s:Shared} {a:Addr} {y:V} {o:Option V} (I:Inv X pins σ H s) (g:DGet H a y o):s.TypeIs (.ref a) "dict":=by
 rcases g with ⟨kvs,k,e,_,_⟩ | ⟨kvs,k,b,e,_,_,_⟩
 ·obtain ⟨_,_,vs,_,dd⟩:=p0 I.hok e
  exact dd.typeIs
 ·obtain ⟨_,_,xs,_,dd⟩:=pZ I.hok e
  exact dd.typeIs
def zv (td ty:TE):TE:=fun σ H Q=>td σ H fun x H1=>ty σ H1 fun y H2=>∃ a v,x=.ref a∧DGet H2 a y (some v)∧Q v H2
def zy (td ty tv:TE):TS:=fun D σ H=>tv σ H fun v H1=>td σ H1 fun x H2=>ty σ H2 fun y H3=>∃ a H4,x=.ref a∧DPut H3 a y v H4∧D.nx σ H4
section
variable {X:Cx} {o i e value:Expr} {pos pos' tpos:Pos} {td ty tv:TE}
theorem Ay (hu:X.A.units+1 < cLine) (ho:PE X o td) (hi:PE X i ty) (hs:qc i):PE X (.Subscript o i pos) (zv td ty):=by
 intro pins s σ H Q I h
 refine Af PySem.F.slot_dict_getitem.lookup hs (thn (ho pins s σ H _ I h) fun u s1 ⟨x,H1,I1,rx,q1⟩=>thn (hi pins s1 σ H1 _ I1 q1) fun iv s2 ⟨y,H2,I2,ry,a,v,ex,g,q2⟩=>?_)
 subst ex
 obtain rfl:u=Value.ref a:=rx
 exact ⟨n5 I2 g,rS hu I2 g ry fun w' s3 I3 rw'=>⟨v,H2,I3,rw',q2⟩⟩
theorem Ap (hu:X.A.units+1 < cLine) (ho:PE X o td) (hi:PE X i ty) (hv:PE X value tv) (hs:swapsWith value (some (.Subscript o i pos')) pos.line X.env=pure false) :
  PS X (.Assign [.Subscript o i pos'] value pos) (zy td ty tv):=by
 intro pins s σ H D I h
 refine wpAny_Assign_Subscript (thn (hv pins s σ H _ I h) fun r s1 ⟨v,H1,I1,rv,q1⟩=>thn (ho pins s1 σ H1 _ I1 q1) fun u s2 ⟨x,H2,I2,rx,q2⟩=>thn (hi pins s2 σ H2 _ I2 q2) fun iv s3 ⟨y,H3,I3,ry,a,H4,ex,g,q3⟩=>?_) hs
 subst ex
 obtain rfl:u=Value.ref a:=rx
 exact rR hu I3 g ry rv fun s4 I4=>⟨σ,H4,I4,q3⟩
end
theorem t3 {P:Program} {w:World} {H:Hp} (h:Heap) (hb:sysModules < h.objs.size):ObjOk P w H (h.push { cls:=.type "dict",data:=.dict #[] }) h.objs.size (.dK []) :=
 ⟨Nat.zero_le _,beq_eq_false_iff_ne.mpr (Ne.symm (Nat.ne_of_lt hb)),[],.nil,Heap.DictOf.new h⟩
section
variable {X:Cx} {pos:Pos}
end
def jY:List (TE × TE)→St→Hp→(List (V × V)→Hp→Prop)→Prop
 | [],_,H,Q=>Q [] H
 | (tk,tv) :: r,σ,H,Q=>tk σ H fun x H1=>tv σ H1 fun y H2=>jY r σ H2 fun ps H3=>Q ((x,y) :: ps) H3
abbrev VV:List (V × V)→List (Value × Value)→Prop:=Paired fun p q=>RelV p.1 q.1∧RelV p.2 q.2
def PPs (X:Cx) (pos:Pos) (keys:List (Option Expr)) (values:List Expr) (trs:List (TE × TE)):Prop :=
 ∀ (pins:List (Addr × Obj)) (s:Shared) (σ:St) (H:Hp) (Q:List (V × V)→Hp→Prop),Inv X pins σ H s→jY trs σ H Q →
  wpAny (model X.prog X.w) X.A (evalPairs (pairTrees keys values X.env pos)) (fun vs s'=>∃ ps H',Inv X pins σ H' s'∧VV ps vs∧Q ps H') X.xe s
theorem Aq {X:Cx} {pos:Pos}:PPs X pos [] [] []:=fun pins s σ H Q I h=>pairTrees_nil_walk ⟨[],H,I,.nil,h⟩
theorem sB {X:Cx} {pos:Pos} {k v:Expr} {ks:List (Option Expr)} {vs:List Expr} {tk tv:TE} {trs:List (TE × TE)} (hk:PE X k tk) (hv:PE X v tv) (hr:PPs X pos ks vs trs) :
  PPs X pos (some k :: ks) (v :: vs) ((tk,tv) :: trs):=fun pins s σ H Q I h =>
 pairTrees_cons_walk (thn (hk pins s σ H _ I h) fun u s1 ⟨x,H1,I1,rx,q1⟩=>thn (hv pins s1 σ H1 _ I1 q1) fun w2 s2 ⟨y,H2,I2,ry,q2⟩ =>
  thn (hr pins s2 σ H2 _ I2 q2) fun ws s3 ⟨ps,H3,I3,rel,q3⟩=>⟨(x,y) :: ps,H3,I3,.cons ⟨rx,ry⟩ rel,q3⟩)
def eA (kvs more:List (Key × V)):List (Key × V):=more.foldl (fun acc kv=>cc acc kv.1 kv.2) kvs
theorem KV.merge:∀ {more:List (Key × V)} {rs:List (Key × Value)} {kvs:List (Key × V)} {vs:List (Key × Value)},KV more rs→KV kvs vs→KV (eA kvs more) (merged vs rs):=by
 intro more rs kvs vs r
 unfold KV at r
 induction r generalizing kvs vs with
 | nil=>intro q; exact q
 | @cons p q ps qs h t ih =>
  intro r0
  have e:KV (cc kvs p.1 p.2) (stored vs q.1 q.2):=by
   have:=r0.put p.1 h.2
   rw [← h.1]; exact this
  exact ih e
theorem im:∀ (more kvs:List (Key × V)),(eA kvs more).length≤kvs.length+more.length
 | [],kvs=>by show kvs.length≤kvs.length+0; omega
 | p :: r,kvs=>by
  have h1:=im r (cc kvs p.1 p.2)
  have h2:=fO kvs p.1 p.2
  show (eA (cc kvs p.1 p.2) r).length≤_
  rw [List.length_cons]; omega
theorem kz {P:Program} {w:World}:∀ {kvs:List (Key × V)} {ws:List (Value × Value)},VV (kvs.map fun kv=>(kV kv.1,kv.2)) ws→∃ rs,Carries (bn P w) ws rs∧KV kvs rs
 | [],_,r=>by rw [List.map_nil] at r; cases r; exact ⟨[],True.intro,.nil⟩
 | p :: kvs,_,r=>by
  rw [List.map_cons] at r
  cases r with
  | @cons a b as bs h t =>
   obtain ⟨rs,c,q⟩:=kz (P:=P) (w:=w) t
   obtain ⟨b1,b2⟩:=b
   exact ⟨(p.1,b2) :: rs,⟨mw h.1,rfl,c⟩,.cons ⟨rfl,h.2⟩ q⟩
def zu (trs:List (TE × TE)):TE:=fun σ H Q=>∀ p,H p=none→jY trs σ (upd H p (.dK [])) fun ps H2=>H2 p=some (.dK [])∧∃ kvs:List (Key × V),ps=kvs.map (fun kv=>(kV kv.1,kv.2))∧kvs.length≤15∧Q (.ref p) (upd H2 p (.dK (eA [] kvs)))
theorem Ax {X:Cx} {pos:Pos} {keys:List (Option Expr)} {values:List Expr} {trs:List (TE × TE)} (h:PPs X pos keys values trs) (hall:keys.all (·.isSome)=true) (hl:keys.length=values.length) (h0:keys≠[])
  (h15:keys.length≤15):PE X (.Dict keys values pos) (zu trs):=by
 intro pins s σ H Q I q
 have hn:=I.hok.fresh (Nat.le_refl s.heap.objs.size)
 have I1:=I.laid (a:=s.heap.objs.size) (o:=.dK []) (h':=s.heap.push { cls:=.type "dict",data:=.dict #[] }) (t':=s.toks) (fun _ _ q=>Heap.get?_push_of_some _ q) (Nat.le_refl _) (t3 s.heap I.big)
 refine wpAny_Dict_walk (knd:=bn X.prog X.w) hall hl h0 h15 (thn (h pins _ σ _ _ I1 (q _ hn)) fun ws s2 ⟨ps,H2,I2,rel,e,kvs,ep,lk,q2⟩=>?_)
 subst ep
 obtain ⟨rs,c,rk⟩:=kz (P:=X.prog) (w:=X.w) rel
 obtain ⟨z,hd,vs0,r0,dd⟩:=p5 I2.hok e
 cases r0
 refine ⟨rs,c,dd,fun h' dd' hs=>⟨.ref s.heap.objs.size,_,?_,rfl,q2⟩⟩
 have hz:(eA [] kvs).length≤sizeLine:=by
  have h1:=im kvs []
  rw [List.length_nil] at h1
  rw [sizeLine_eq]; omega
 have he:∃ q,h'.get? s.heap.objs.size=some q:=let ⟨q,_,_,hq,_⟩:=dd'; ⟨q,hq⟩
 exact ld I2 (by rw [e]; exact True.intro) hs he (rQ hz hd (rk.merge .nil) dd')
section
variable {X:Cx} {pins:List (Addr × Obj)} {σ:St} {H:Hp} {s:Shared} {a:Addr} {y d:V} {u r:Value} {o:Option V} {A:Around} {E:Value→Shared→Prop}
end
section
variable {X:Cx} {o e f:Expr} {apos cpos:Pos} {td ty tx:TE}
end
section
variable {X:Cx} {pins:List (Addr × Obj)} {σ:St} {H:Hp} {s:Shared} {a:Addr} {kvs:List (Key × V)} {A:Around} {E:Value→Shared→Prop}
end
section
variable {X:Cx} {pins:List (Addr × Obj)} {σ:St} {H:Hp} {s:Shared} {a:Addr} {y:V} {u:Value} {A:Around} {E:Value→Shared→Prop}
end
end L2
namespace L2
open PySem PySem.Spec PyProof.Rows
section
variable {X:Cx}
end
section
variable {κ:Type} [DecidableEq κ]
end
end L2
set_option maxHeartbeats 4000000
namespace L2
open PySem PySem.Spec PyProof.Rows
theorem Bb {α β:Type} {l:List α} {f:α→β→Sem (ForInStep β)} {g:β→α→β} (h:∀ x∈l,∀ c,f x c=pure (.yield (g c x))):∀ c,forIn l c f=pure (l.foldl g c):=by
 induction l with
 | nil=>intro c; rfl
 | cons x l ih =>
  intro c
  rw [List.forIn_cons,h x List.mem_cons_self,pure_bind]
  exact ih (fun y hy=>h y (List.mem_cons_of_mem _ hy)) (g c x)
def cZ (env:Env) (acc:List (Str × Addr)) (x:Str × NameKind):List (Str × Addr) :=
 if x.2 == NameKind.free then (x.1,(env.cells.lookup x.1).getD 0) :: acc else acc
def cD (env:Env) (names:List (Str × NameKind)):List (Str × Addr):=names.foldl (cZ env) []
theorem kw {scope:Scope} {env:Env} (h:∀ y∈scope.names,y.2=.free→∃ c,env.cells.lookup y.1=some c):closureFor scope env=pure (cD env scope.names):=by
 simp only [closureFor]
 rw [Bb (g:=cZ env) (fun x hx c=>by
  obtain ⟨n,kind⟩:=x
  by_cases hk:kind=.free
  ·obtain ⟨a,e⟩:=h _ hx hk
   subst hk
   have e':env.cells.lookup n=some a:=e
   simp [cellOf,cZ,e']
  ·have hb:(kind == NameKind.free)=false:=by simpa using hk
   simp [cZ,hb])]
 rfl
theorem kx {env:Env}:∀ (names:List (Str × NameKind)) (acc:List (Str × Addr)) (p:Str × Addr),
  p∈names.foldl (cZ env) acc→p∈acc∨((p.1,NameKind.free)∈names∧p.2=(env.cells.lookup p.1).getD 0)
 | [],_,_,h=>.inl h
 | (n,k) :: r,acc,p,h=>by
  rw [List.foldl_cons] at h
  rcases kx r _ p h with q | ⟨q,e⟩
  ·unfold cZ at q
   by_cases hk:(k == NameKind.free)=true
   ·rw [if_pos hk] at q
    rcases List.mem_cons.mp q with z | z
    ·subst z
     have hk':k=NameKind.free:=by simpa using hk
     subst hk'
     exact .inr ⟨List.mem_cons_self,rfl⟩
    ·exact .inl z
   ·rw [if_neg hk] at q
    exact .inl q
  ·exact .inr ⟨List.mem_cons_of_mem _ q,e⟩
theorem jq {env:Env}:∀ (names:List (Str × NameKind)) (acc:List (Str × Addr)) (p:Str × Addr),p∈acc→p∈names.foldl (cZ env) acc
 | [],_,_,h=>h
 | x :: r,acc,p,h=>by
  rw [List.foldl_cons]
  refine jq r _ p ?_
  unfold cZ
  split
  ·exact List.mem_cons_of_mem _ h
  ·exact h
theorem ky {env:Env} {n:Str}:∀ (names:List (Str × NameKind)) (acc:List (Str × Addr)),(n,NameKind.free)∈names→∃ c,(n,c)∈names.foldl (cZ env) acc
 | (m,k) :: r,acc,h=>by
  rw [List.foldl_cons]
  rcases List.mem_cons.mp h with e | e
  ·cases e
   exact ⟨(env.cells.lookup n).getD 0,jq r _ _ (by unfold cZ; rw [if_pos (show (((n,NameKind.free):Str × NameKind).2 == NameKind.free)=true from rfl)]; exact List.mem_cons_self)⟩
  ·exact ky r _ e
theorem eJ {α:Type}:∀ {l:List (Str × α)} {n:Str} {c:α},(n,c)∈l→∃ c',l.lookup n=some c'
 | (m,d) :: r,n,c,h=>by
  rw [List.lookup_cons]
  cases hb:n == m with
  | true=>exact ⟨d,rfl⟩
  | false =>
   rcases List.mem_cons.mp h with e | e
   ·cases e
    simp at hb
   ·exact eJ e
theorem nB {env:Env} {names:List (Str × NameKind)} {n:Str} (h:(n,NameKind.free)∈names):∃ c,(cD env names).lookup n=some c :=
 let ⟨_,e⟩:=ky (env:=env) names [] h
 eJ e
theorem lW {env:Env} {names:List (Str × NameKind)} {n:Str} {c:Addr} (h:∀ y∈names,y.2=.free→∃ c,env.cells.lookup y.1=some c) (e:(cD env names).lookup n=some c):env.cells.lookup n=some c:=by
 rcases kx names [] (n,c) (PySem.mem_of_lookup e) with q | ⟨q,z⟩
 ·simp at q
 ·obtain ⟨a,ea⟩:=h _ q rfl
  have z':c=(env.cells.lookup n).getD 0:=z
  have ea':env.cells.lookup n=some a:=ea
  rw [ea'] at z'
  rw [ea',z']
  rfl
theorem gB {env:Env}:∀ {names:List (Str × NameKind)} {x:Str} {k:NameKind},
  (names.map fun (n,k)=>if (k == NameKind.free && env.scope.kind == .function && env.kindOf n == some .cell) then (n,NameKind.cell) else (n,k)).lookup x=some k →
  names.lookup x=some k∨(names.lookup x=some .free∧k=.cell)
 | [],_,_,h=>by simp at h
 | (n,k0) :: r,x,k,h=>by
  rw [List.map_cons] at h
  cases hx:x == n with
  | true =>
   rcases Bool.eq_false_or_eq_true (k0 == NameKind.free && env.scope.kind == .function && env.kindOf n == some .cell) with hc | hc
   ·simp only [hc,if_true,List.lookup_cons,hx] at h
    have hk:k0=.free:=by
     simp only [Bool.and_eq_true,beq_iff_eq] at hc
     exact hc.1.1
    refine .inr ⟨?_,?_⟩
    ·simp only [List.lookup_cons,hx,hk]
    ·exact (Option.some.inj h).symm
   ·simp only [hc,Bool.false_eq_true,if_false,List.lookup_cons,hx] at h
    refine .inl ?_
    simp only [List.lookup_cons,hx]
    exact h
  | false =>
   have h':(r.map fun (n,k)=>if (k == NameKind.free && env.scope.kind == .function && env.kindOf n == some .cell) then (n,NameKind.cell) else (n,k)).lookup x=some k:=by
    rcases Bool.eq_false_or_eq_true (k0 == NameKind.free && env.scope.kind == .function && env.kindOf n == some .cell) with hc | hc
    ·simp only [hc,if_true,List.lookup_cons,hx] at h
     exact h
    ·simp only [hc,Bool.false_eq_true,if_false,List.lookup_cons,hx] at h
     exact h
   simp only [List.lookup_cons,hx]
   exact gB h'
theorem gC {env:Env}:∀ {names:List (Str × NameKind)} {x:Str},names.lookup x=some .free →
  (names.map fun (n,k)=>if (k == NameKind.free && env.scope.kind == .function && env.kindOf n == some .cell) then (n,NameKind.cell) else (n,k)).lookup x=some .cell ∨
  (names.map fun (n,k)=>if (k == NameKind.free && env.scope.kind == .function && env.kindOf n == some .cell) then (n,NameKind.cell) else (n,k)).lookup x=some .free
 | [],_,h=>by simp at h
 | (n,k0) :: r,x,h=>by
  rw [List.map_cons]
  cases hx:x == n with
  | true =>
   simp only [List.lookup_cons,hx] at h
   rcases Bool.eq_false_or_eq_true (k0 == NameKind.free && env.scope.kind == .function && env.kindOf n == some .cell) with hc | hc
   ·refine .inl ?_
    simp only [hc,if_true,List.lookup_cons,hx]
   ·refine .inr ?_
    simp only [hc,Bool.false_eq_true,if_false,List.lookup_cons,hx]
    exact h
  | false =>
   simp only [List.lookup_cons,hx] at h
   have ih:=gC (env:=env) h
   rcases Bool.eq_false_or_eq_true (k0 == NameKind.free && env.scope.kind == .function && env.kindOf n == some .cell) with hc | hc
   ·simp only [hc,if_true,List.lookup_cons,hx]
    exact ih
   ·simp only [hc,Bool.false_eq_true,if_false,List.lookup_cons,hx]
    exact ih
def dg (js:List (Option Nat)) (σ:St):St:=js.map fun j=>match j with
 | some j=>(σ[j]?).join
 | none=>none
end L2
namespace L2
open PySem PySem.Spec PyProof.Rows
def PTs (X:Cx) (ifs:List Expr) (tt:TT):Prop :=
 ∀ (pins:List (Addr × Obj)) (s:Shared) (σ:St) (H:Hp) (Q:Bool→Hp→Prop),Inv X pins σ H s→tt σ H Q →
  wpAny (model X.prog X.w) X.A (forIn ifs true fun c r=>if r=true then do let ok ← isTrue c X.env (eval c X.env); pure (ForInStep.yield ok) else pure (ForInStep.yield r)) (TP X pins σ Q) X.xe s
def Gz:TT:=fun _ H Q=>Q true H
theorem pts_nil {X:Cx}:PTs X [] Gz:=fun _ _ _ H _ I h=>wpAny_tests_nil ⟨H,I,h⟩
theorem Am {X:Cx} {c:Expr} {tc:TT} (hc:PT X c tc):PTs X [c] tc:=fun pins s σ H Q I h=>wpAny_tests_one (hc pins s σ H Q I h)
def Eg (g:TG) (tt:TT) (te:TE) (D:Addr) (x:V) (τ:St) (H:Hp) (N:St→Hp→Prop):Prop :=
 g x τ H fun τ4 H4=>tt τ4 H4 fun b H5=>if b=true then te τ4 H5 fun v H6=>∃ xs,H6 D=some (.lst xs)∧xs.length < sizeLine∧N τ4 (upd H6 D (.lst (xs++[v]))) else N τ4 H5
def zJ (J:It) (g:TG) (tt:TT) (te:TE) (σ0:St) (H1:Hp) (D:Addr) (Q:VK):Prop :=
 ∃ W:Nat→Nat→St→Hp→Prop,(∃ m,W 0 m σ0 (upd H1 D (.lst []))) ∧
  ∀ i m τ H2,W i m τ H2→(J.stop i H2∧Q (.ref D) H2)∨(J.go i H2∧∃ N:St→Hp→Prop,(∀ τ' H',N τ' H'→∃ m',m' < m∧W (i+1) m' τ' H')∧∀ x H3,J.yld i H2 x H3→Eg g tt te D x τ H3 N)
def tLC (wi:TI) (g:TG) (tt:TT) (te:TE) (js:List (Option Nat)):TE:=fun σ H Q =>
 wi σ H fun J H1=>∀ D,H1 D=none→zJ J g tt te (dg js σ) H1 D Q
theorem thF {α:Type} {t:Sem α} {Q Q':α→Shared→Prop} {M:Model} {A:Around} {E:Value→Shared→Prop} {s:Shared} (h:wpAny M A t Q (fun _ _=>False) s) (hQ:∀ a s,Q a s→Q' a s):wpAny M A t Q' E s :=
 wpAny_mono h hQ fun _ _ x=>x.elim
section
variable {X:Cx} {elt tg iter:Expr} {ifs:List Expr} {scope:Scope} {pos:Pos} {ns:List Str} {js:List (Option Nat)} {wi:TI} {g:TG} {tt:TT} {te:TE}
end
end L2
namespace L2
open PySem PySem.Spec PyProof.Rows
section
variable {X:Cx}
theorem p7:∀ (bs:List Bool),(List.range bs.length).all (fun i=>bs.getD i true)=bs.all id:=fun bs=>by
 rw [Bool.eq_iff_iff,List.all_eq_true,List.all_eq_true]
 constructor
 ·intro h b hb
  obtain ⟨i,hi,e⟩:=List.mem_iff_getElem.mp hb
  have q:=h i (List.mem_range.mpr hi)
  rw [List.getD_eq_getElem?_getD,List.getElem?_eq_getElem hi,e] at q
  exact q
 ·intro h i hi
  have hi':=List.mem_range.mp hi
  rw [List.getD_eq_getElem?_getD,List.getElem?_eq_getElem hi']
  exact h _ (List.getElem_mem hi')
theorem t9 (hc:X.calm=true):CallR X (.builtin "all") (fun xs H Q=>∃ (p:Addr) (bs:List Bool),xs=[.ref p]∧SqL X.K H p (bs.map V.bl)∧Q (.bl (bs.all id)) H):=by
 intro pins s σ H xs us Q I r h
 obtain ⟨p,bs,rfl,hp,q⟩:=h
 obtain ⟨u,rfl,ru⟩:=da r
 cases ru
 obtain ⟨its,rv,pl,hz⟩:=I.list hp
 have hl:its.length=bs.length:=by rw [← rv.length,List.length_map]
 have hlt:p < s.heap.objs.size:=by
  obtain ⟨o,n,e,_⟩:=id pl
  exact Heap.lt_size e
 refine call_all_walk (wpAny_pyIter_list pl.isList ?_)
 refine ⟨s.heap.objs.size,[s.heap.objs.size,p],[s.heap.objs.size],its.toArray.size,fun i v=>its.toArray[i]?=some v,_,fun i=>bs.getD i true,rfl,Walks.list (A:=X.A.in1) (show X.A.in1.handled=none from I.ok.hd hc) s.heap.objs.size p (Nat.ne_of_lt hlt) its.toArray,?_,?_,?_⟩
 ·exact ⟨⟨_,Heap.get?_push_size _ rfl,rfl,rfl⟩,pl.isList.push _⟩
 ·intro i v s' Q' E' hv hq
  have hv':its[i]?=some v:=by simpa using hv
  have hi:i < bs.length:=by
   rw [← hl]
   exact (List.getElem?_eq_some_iff.mp hv').1
  obtain ⟨u,hu,ru⟩:=rv.get (i:=i) (x:=V.bl bs[i]) (by rw [List.getElem?_map,List.getElem?_eq_getElem hi]; rfl)
  rw [hu] at hv'
  cases hv'
  cases ru
  have e:bs.getD i true=bs[i]:=by rw [List.getD_eq_getElem?_getD,List.getElem?_eq_getElem hi]; rfl
  have hq':Q' (bs.getD i true) s':=hq
  rw [e] at hq'
  exact wpAny_truthy_bool hq'
 ·intro h' tk hk
  have e:(List.range its.toArray.size).all (fun i=>bs.getD i true)=bs.all id:=by
   rw [← p7 bs,List.size_toArray,hl]
  rw [e]
  refine ⟨.bl (bs.all id),H,I.kept (t':=tk) fun b o z=>hk b o ?_ (Heap.get?_push_of_some _ z),rfl,q⟩
  intro z'
  have z'':b=s.heap.objs.size:=by simpa using z'
  exact Nat.ne_of_lt (Heap.lt_size z) z''
theorem t8:CallR X (.builtin "isinstance") (fun xs H Q=>∃ x t n b,xs=[x,.ty n]∧TyOf X.K H x t∧PySem.W.kitOne X.K t (.type n)=some b∧Q (.bl b) H):=by
 intro pins s σ H xs us Q I r h
 obtain ⟨x,t,n,b,rfl,ty,e,q⟩:=h
 obtain ⟨u,w',rfl,r1,r2⟩:=pc r
 cases r2
 exact rg I r1 ty e fun tk=>⟨.bl b,H,I.tok _,rfl,q⟩
end
section
open PySem.SeqAt
variable {X:Cx} {pins:List (Addr × Obj)} {σ:St} {H:Hp} {s:Shared}
end
section
variable {X:Cx}
theorem Inv.turnedLaid {pins:List (Addr × Obj)} {σ:St} {H:Hp} {s:Shared} {h':Heap} {t':Nat} {fp:List Addr} {p:Addr} {o:HO} (I:Inv X pins σ H s) (f:∀ b∈fp,fA X pins H b) (hp:s.heap.objs.size≤p)
  (k:∀ b ob,b ∉ fp→s.heap.get? b=some ob→h'.get? b=some ob) (th:∀ b∈fp,∃ ob,h'.get? b=some ob) (new:ObjOk X.prog X.w (upd H p o) h' p o):Inv X pins σ (upd H p o) { s with heap:=h',toks:=t' }:=by
 have hn:H p=none:=I.hok.fresh hp
 have ne:∀ b ob,s.heap.get? b=some ob→b≠p:=fun b ob e=>Nat.ne_of_lt (Nat.lt_of_lt_of_le (Heap.lt_size e) hp)
 have nf:∀ b u,H b=some u→b ∉ fp:=fun b u e z=>by rw [(f b z).1] at e; cases e
 refine I.step (g':=s.gens) (d':=s.drawn) (ch:=fp) (fun b hb=>⟨(f b hb).2.2.2.1,(f b hb).2.1,(f b hb).2.2.2.2.1,(f b hb).2.2.2.2.2⟩) (fun b ob _ _ hc e _=>k b ob hc e) (fun b ob _ _ hc e _=>⟨ob.slots,k b ob hc e⟩)
  (fun b ob _ e n=>by rw [aF (ne b ob e)]; exact n) (fun b ob hc e=>⟨ob,k b ob hc e⟩) (fun b xs e=>by rw [aF (bB e hn)]; exact e) (fun b ob u e=>by rw [aF (bB e hn)]; exact e)
  (fun b ps e=>⟨#[],by rw [aF (bB e hn),e]; simp⟩) (fun m hm=>?_) (fun b u e=>?_) I.bare
 ·obtain ⟨ob,es,ep,ho,r⟩:=hm
  exact ⟨ob,es,ep,k _ ob (fun z=>(f _ z).2.1 rfl) ho,r⟩
 ·by_cases hb:b=p
  ·subst hb
   rw [aJ] at e
   cases e
   exact new
  ·rw [aF hb] at e
   refine (I.hok b u e).stay (fun c v hc q=>k c v ?_ q) (fun c q=>by rw [aF (bB q hn)]; exact q) fun c xs q=>by rw [aF (bB q hn)]; exact q
   rcases hc with z | z
   ·rw [z]; exact nf b u e
   ·exact nf c _ z
def Ite (K:PySem.W.Frag) (a:Addr):It :=
 ⟨fun i H=>∃ xs x,SqL K H a xs∧xs[i]?=some x,
  fun i H y H'=>∃ p x,y=.ref p∧H p=none∧H'=upd H p (.tup [.int i,x])∧∀ xs,SqL K H a xs→xs[i]?=some x,
  fun i H=>∃ xs,SqL K H a xs∧xs.length≤i⟩
theorem qy {P:Program} {w:World} {K:PySem.W.Frag} {elts:List Expr} {k:Nat} {tp:Pos} (a e it:Addr) (hei:e≠it) :
  Turn P w K (.Tuple elts k tp) (Ite K a) [e,it] e (fun i h=>(∃ old,IsEnum h e it i old)∧h.IsListIter it a i) where
 mem:=by simp
 obj:=fun i h st b hb=>by
  obtain ⟨⟨old,he⟩,o,ho,hc,hd⟩:=st
  have hb':b=e∨b=it:=by simpa using hb
  rcases hb' with rfl | rfl
  ·exact ⟨_,he,fun v z=>by
    have z':Data.fields _=Data.cell v:=z
    cases z'⟩
  ·exact ⟨o,ho,fun v z=>by rw [hd] at z; cases z⟩
 keep:=fun i h h' st kp=>⟨let ⟨old,he⟩:=st.1; ⟨old,kp e (by simp) _ he⟩,st.2.at fun o q=>kp it (by simp) o q⟩
 item:=by
  intro X hP hw hK hc i pins s σ H E I hf st hg
  subst hP hw hK
  obtain ⟨xs,x,hq,hx⟩:=hg
  obtain ⟨its,rv,p,hz⟩:=I.list hq
  obtain ⟨u,hu,ru⟩:=rv.get hx
  obtain ⟨⟨old,he⟩,hit⟩:=st
  refine wpAny_pyNext_enum_item he hit p.isList (x:=u) (by simpa using hu) hei fun h1 ho1 hit1 ht1 hz1 hk1=>?_
  refine ⟨_,rfl,wpAny_letOwnedTupleGo_enum ho1 fun h2 he2 hs2=>?_⟩
  have eL:e < s.heap.objs.size:=Heap.lt_size he
  have ht2:h2.get? s.heap.objs.size=some { cls:=.type "tuple",data:=.seq #[.int i s.toks,u] }:=(hs2.2 _ (Nat.ne_of_gt eL)).trans ht1
  have hit2:h2.IsListIter it a (i+1):=hit1.extBut hs2.extBut hei.symm
  have I2:Inv X pins σ (upd H s.heap.objs.size (.tup [.int i,x])) { s with heap:=h2,toks:=s.toks+1 }:=by
   refine I.turnedLaid (fp:=[e,it]) hf (Nat.le_refl _) (fun b ob hb q=>?_) (fun b hb=>?_) ?_
   ·have h1:b≠e:=fun z=>hb (by simp [z])
    have h2':b≠it:=fun z=>hb (by simp [z])
    exact (hs2.2 b h1).trans (hk1 b ob h1 h2' q)
   ·have hb':b=e∨b=it:=by simpa using hb
    rcases hb' with rfl | rfl
    ·exact ⟨_,he2⟩
    ·obtain ⟨o,ho,_⟩:=hit2
     exact ⟨o,ho⟩
   ·refine ⟨(by show 2≤sizeLine; decide),[.int i s.toks,u],.cons ⟨_,rfl⟩ (.cons ru .nil),?_⟩
    exact ⟨_,ht2,rfl,_,rfl,rfl⟩
  have fr:∀ b∈[e,it],upd H s.heap.objs.size (.tup [.int i,x]) b=none:=fun b hb=>by
   have hlt:b < s.heap.objs.size:=by
    have hb':b=e∨b=it:=by simpa using hb
    rcases hb' with rfl | rfl
    ·exact eL
    ·obtain ⟨o,ho,_⟩:=hit
     exact Heap.lt_size ho
   rw [aF (Nat.ne_of_lt hlt)]
   exact (hf b hb).1
  exact ⟨.ref s.heap.objs.size,_,I2,rfl,⟨_,x,rfl,I.fresh,rfl,fun ys hy=>by rw [I.list_inj hy hq]; exact hx⟩,⟨⟨_,he2⟩,hit2⟩,fr⟩
 done:=by
  intro X hP hw hK hc i pins s σ H E I hf st hg
  subst hP hw hK
  obtain ⟨xs,hq,hx⟩:=hg
  obtain ⟨its,rv,p,hz⟩:=I.list hq
  obtain ⟨⟨old,he⟩,hit⟩:=st
  obtain ⟨f0,f1,f2,f3,f4,f5⟩:=hf it (by simp)
  have hl:=rv.length
  exact wpAny_pyNext_enum_end (I.ok.hd hc) he hit p.isList (by simp; omega) fun h' eb=>⟨rfl,I.turned (t':=s.toks) (fun b o hb q=>eb b o hb q) f0 f1 f3 f4 f5⟩
 self:=fun _ _ _ _ _ st h=>let ⟨⟨_,he⟩,_⟩:=st; wpAny_pyIter_enum he h
end
end L2
namespace L2
open PySem PySem.Spec PyProof.Rows
def Kn (P:Program) (w:World) (K:PySem.W.Frag) (mg:Str→Option Value) (base:Heap) (k:Nat) (x:Str) (ps:List Str) (sp:Sp):Prop :=
 ∃ f fd,FnOk P w K mg base CX0 k f fd ps sp∧mg x=some (.ref f)∧PySem.W.keepIn K (.ref f)=true∧Binds K fd ps []
theorem Kn.mono {P:Program} {w:World} {K:PySem.W.Frag} {mg:Str→Option Value} {base:Heap} {j k:Nat} {x:Str} {ps:List Str} {sp:Sp} (G:Kn P w K mg base j x ps sp) (h:j≤k):Kn P w K mg base k x ps sp :=
 let ⟨f,fd,a,b,c,d⟩:=G
 ⟨f,fd,a.mono h,b,c,d⟩
section
variable {X:Cx} {k:Nat} {x:Str} {ps:List Str} {sp:Sp} {p pos:Pos} {e:Expr} {es:List Expr} {t:TA}
theorem zF (G:Kn X.prog X.w X.K X.mg X.base k x ps sp) (hr:Room k X.A) (hg:Gl X x) (ha:PA X (e :: es) t) (hdb:(x == ("__debug__" : Str))=false:=by decide)
  (he:starEach (e :: es) X.env=(false,eval e X.env) :: starEach es X.env:=by rfl) (hpl:(backTo pos (starEach es X.env)).any (·.1)=false:=by rfl) :
  PE X (.Call (.Name x p) (e :: es) [] pos) (pk sp [] E0 t):=by
 obtain ⟨f,fd,F,hm,hk,hb⟩:=G
 exact AA F hr hg hm hk hb .nil FO ha hdb he hpl
end
def GA (K:PySem.W.Frag):List V→Hp→VK→Prop:=fun xs H Q=>∃ x n,xs=[x]∧FB K x H n∧Q (.int n) H
def Ak (K:PySem.W.Frag):List V→Hp→VK→Prop:=fun xs H Q=>∃ p ys,xs=[.ref p]∧(SqL K H p ys∨SqT K H p ys)∧∀ l,H l=none→Q (.ref l) (upd H l (.lst ys))
def DK (K:PySem.W.Frag):List V→Hp→VK→Prop:=fun xs H Q=>∃ p ys,xs=[.ref p]∧((SqL K H p ys∧∀ l,H l=none→Q (.ref l) (upd H l (.tup ys)))∨(SqT K H p ys∧Q (.ref p) H))
def GC (K:PySem.W.Frag):List V→Hp→VK→Prop:=fun xs H Q=>∃ (p:Addr) (bs:List Bool),xs=[.ref p]∧SqL K H p (bs.map V.bl)∧Q (.bl (bs.all id)) H
section
variable {X:Cx} {K:PySem.W.Frag}
theorem GG (hK:X.K=K):CallR X (.builtin "len") (GA K):=by subst hK; exact t7
theorem AK (hK:X.K=K):CallR X (.type "list") (Ak K):=by subst hK; exact nF
theorem Ek (hK:X.K=K):CallR X (.type "tuple") (DK K):=by subst hK; exact mi
theorem GJ (hK:X.K=K) (hc:X.calm=true):CallR X (.builtin "all") (GC K):=by subst hK; exact t9 hc
theorem GH (hK:X.K=K):IxR X (pq K):=by subst hK; exact ix_list
theorem GF (hK:X.K=K):SlR X (DL K):=by subst hK; exact Ai
variable {tg l:Expr} {tl:TE} {es:List Expr} {t:TGs} {n k:Nat} {pos p p2 cpos apos:Pos}
end
end L2
namespace L2
open PySem PySem.Spec PyProof.Rows
def sgn (c:Nat):V:=.str ⟨#[c]⟩
def Its (z:Str):It:=⟨fun i _=>i < z.cps.size,fun i H x H'=>H'=H∧∃ c,z.cps[i]?=some c∧x=sgn c,fun i _=>z.cps.size≤i⟩
theorem sj {P:Program} {w:World} {K:PySem.W.Frag} {tg:Expr} (it:Addr) (z:Str) (t:Tok) (ty:String) (hty:ty="str_ascii_iterator"∨ty="str_iterator") :
  Turn P w K tg (Its z) [it] it (fun i h=>h.IsStrIter it ty z t i) where
 mem:=by simp
 obj:=fun i h st b hb=>by
  have e:b=it:=by simpa using hb
  subst e
  obtain ⟨o,e,c,d⟩:=st
  exact ⟨o,e,fun v q=>by rw [d] at q; cases q⟩
 keep:=fun i h h' st k=>let ⟨o,e,r⟩:=st; ⟨o,k it (by simp) o e,r⟩
 item:=by
  intro X hP hw hK hc i pins s σ H E I hf st hg
  subst hP hw hK
  obtain ⟨f0,f1,f2,f3,f4,f5⟩:=hf it (by simp)
  have W:Walks X.prog X.w X.A it [it] [it] z.cps.size (SignAt z) (fun i h=>h.IsStrIter it ty z t i):=by
   rcases hty with rfl | rfl
   ·exact Walks.strAscii (I.ok.hd hc) it z t
   ·exact Walks.strWide (I.ok.hd hc) it z t
  refine W.item i s _ _ hg st fun v h' tk hv st' kk=>?_
  obtain ⟨c,u,hcv,rfl⟩:=hv
  have I1:Inv X pins σ H { s with heap:=h',toks:=tk }:=I.turned (fun b o hb e=>kk b o (by simpa using hb) e) f0 f1 f3 f4 f5
  obtain ⟨o,e,ec,ed⟩:=id st'
  refine ⟨_,rfl,mx (s:={ s with heap:=h',toks:=tk }) (n:=ty) e ec ed (by rcases hty with rfl | rfl <;> decide) ⟨sgn c,H,I1,⟨u,rfl⟩,⟨rfl,c,hcv,rfl⟩,st',fun b hb=>(hf b hb).1⟩⟩
 done:=by
  intro X hP hw hK hc i pins s σ H E I hf st hg
  subst hP hw hK
  obtain ⟨f0,f1,f2,f3,f4,f5⟩:=hf it (by simp)
  have hle:z.cps.size≤i:=hg
  rcases hty with rfl | rfl
  ·exact wpAny_pyNext_ascii_end (I.ok.hd hc) st (by simpa using hle) fun h' he=>⟨rfl,I.turned (t':=s.toks) (fun b o hb e=>he b o hb e) f0 f1 f3 f4 f5⟩
  ·exact wpAny_pyNext_wide_end (I.ok.hd hc) st (by simpa using hle) fun h' he=>⟨rfl,I.turned (t':=s.toks) (fun b o hb e=>he b o hb e) f0 f1 f3 f4 f5⟩
 self:=fun A i s Q E st h=>by
  rcases hty with rfl | rfl
  ·exact wpAny_pyIter_striter_ascii st h
  ·exact wpAny_pyIter_striter_wide st h
section
variable {X:Cx} {tg:Expr} {K:PySem.W.Frag}
def cG (z:Str):List V:=z.cps.toList.map sgn
theorem ji:∀ {xs:List V} {us:List Value},xs.length=us.length→(∀ (i:Nat) x u,xs[i]?=some x→us[i]?=some u→RelV x u)→Vals xs us
 | [],[],_,_=>.nil
 | [],_ :: _,h,_=>by cases h
 | _ :: _,[],h,_=>by cases h
 | x :: xs,u :: us,h,f=>.cons (f 0 x u rfl rfl) (ji (Nat.succ.inj h) fun i y v a b=>f (i+1) y v (by simpa using a) (by simpa using b))
theorem lj (hc:X.calm=true):CallR X (.type "list") (fun xs H Q=>∃ z,xs=[.str z]∧z.cps.size≤sizeLine∧∀ l,H l=none→Q (.ref l) (upd H l (.lst (cG z)))):=by
 intro pins s σ H xs us Q I r h
 obtain ⟨z,rfl,hz,q⟩:=h
 obtain ⟨u,rfl,t,rfl⟩:=da r
 refine call_list_str (I.ok.hd hc) z t (fun h' tk acc c' hk ho hi=>?_) hz
 have hl:(cG z).length=acc.toList.length:=by
  unfold cG
  rw [List.length_map,Array.length_toList,Array.length_toList,hi.1]
 have rv:Vals (cG z) acc.toList:=ji hl fun i x v a b=>by
  obtain ⟨c,tk',hcv,rfl⟩:=hi.2 i v (by simpa using b)
  unfold cG at a
  rw [List.getElem?_map] at a
  have e:z.cps.toList[i]?=some c:=by simpa using hcv
  rw [e] at a
  cases a
  exact ⟨_,rfl⟩
 refine ⟨.ref s.heap.objs.size,_,I.laid (t':=tk) (o:=.lst (cG z)) hk (Nat.le_refl _) ⟨?_,acc.toList,c',rv,by simpa using ho⟩,rfl,q _ I.fresh⟩
 unfold cG
 rw [List.length_map,Array.length_toList]
 exact hz
theorem j4 {ys:List Str}:∀ {us:List Value},Vals (ys.map V.str) us→StrsAre us ys:=by
 induction ys with
 | nil=>intro us r; cases r; exact .nil
 | cons y ys ih =>
  intro us r
  cases r with
  | cons r1 r2 =>
   obtain ⟨t,e⟩:=r1
   subst e
   exact .cons y t (ih r2)
def zB (K:PySem.W.Frag):V→List V→Hp→VK→Prop:=fun x xs H Q=>∃ sep ys p,x=.str sep∧xs=[.ref p]∧(SqL K H p (ys.map V.str)∨SqT K H p (ys.map V.str))∧sep.length≤16∧(ys.map (·.length)).sum+ys.length≤1048576∧Q (.str (Txt.join sep ys)) H
theorem i3 (hK:X.K=K):MtR X "str.join" (zB K):=by
 subst hK
 intro pins s σ H x xs v us Q I rx rs h
 obtain ⟨sep,ys,p,rfl,rfl,hp,hs,hw,q⟩:=h
 obtain ⟨t,rfl⟩:=rx
 obtain ⟨u,rfl,ru⟩:=da rs
 cases ru
 rcases hp with hp | hp
 ·obtain ⟨its,rv,pl,_⟩:=I.list hp
  exact join_listW pl.isList (by simpa using j4 rv) hs hw fun t' k=>⟨.str _,H,I.tok k,⟨_,rfl⟩,q⟩
 ·obtain ⟨its,rv,pl,_⟩:=I.tuple hp
  exact join_tupleW pl (by simpa using j4 rv) hs hw fun t' k=>⟨.str _,H,I.tok k,⟨_,rfl⟩,q⟩
def GO (xs:List Nat) (lo hi:Option Int):List Nat:=(xs.drop (HT.sIx xs.length 0 lo)).take (HT.sIx xs.length xs.length hi - HT.sIx xs.length 0 lo)
end
end L2
namespace L2
open PySem PySem.Spec PyProof.Rows
section
variable {l l':List Addr} {H H':Hp} {a b:Addr} {o:HO}
end
section
variable {K:PySem.W.Frag}
end
end L2
namespace L2
open PySem PySem.Spec PyProof.Rows
section
variable {X:Cx} {tg:Expr} {K:PySem.W.Frag}
def qG:V→List V→Hp→VK→Prop:=fun x xs H Q=>∃ z y i rest,x=.str z∧xs=[.str y]∧Builtin.Str.occurrences z y 0 z.length 1=i :: rest∧Q (.int (i:Nat)) H
theorem sN:MtR X "str.index" qG:=by
 intro pins s σ H x xs v us Q I rx rs h
 obtain ⟨z,y,i,rest,rfl,rfl,ho,q⟩:=h
 obtain ⟨t,rfl⟩:=rx
 obtain ⟨u,rfl,ru⟩:=da rs
 obtain ⟨t2,rfl⟩:=ru
 exact SC.index ho ⟨.int i,H,I.tok _,⟨_,rfl⟩,q⟩
end
section
variable {prog:Program} {w:World} {A:Around} {E:Value→Shared→Prop} {s:Shared}
end
section
variable {X:Cx} {tg:Expr} {K:PySem.W.Frag}
end
end L2
namespace L2
open PySem PySem.Spec PyProof.Rows
abbrev li (z:Str):List Nat:=z.cps.toList
def mk1 (c:Nat):Str:=⟨#[c]⟩
def ofL (l:List Nat):Str:=⟨l.toArray⟩
theorem qU (l:List Nat):li (ofL l)=l:=rfl
theorem qO (z:Str):ofL (li z)=z:=rfl
theorem Ed {a b:Str} (h:li a=li b):a=b:=by rw [← qO a,← qO b,h]
theorem qV (a b:Str):li (a++b)=li a++li b:=by
 show (a.cps++b.cps).toList=_
 rw [Array.toList_append]
def emp:Str:=""
def cat (ks:List Str):Str:=Txt.join emp ks
def aX (ks:List Str):List Nat:=(ks.map li).flatten
theorem Fx (ks:List Str):li (cat ks)=aX ks:=by
 unfold cat Txt.join aX
 rw [StrLaws.glued_eq_join]
 induction ks with
 | nil=>rfl
 | cons x r ih =>
  cases r with
  | nil =>
   show li x=_
   simp
  | cons y r =>
   show li (x++emp++Str.join emp (y :: r))=_
   rw [qV,qV,ih]
   show li x++[]++_=li x++((y :: r).map li).flatten
   rw [List.append_nil]
theorem nG (cs:List Nat):aX (cs.map mk1)=cs:=by
 unfold aX
 rw [List.map_map]
 induction cs with
 | nil=>rfl
 | cons c r ih =>
  rw [List.map_cons,List.flatten_cons,ih]
  rfl
theorem l7 (ks:List Str) (x:Str):aX (ks++[x])=aX ks++li x:=by
 unfold aX
 rw [List.map_append,List.flatten_append]
 simp
theorem nH (ks:List Str):(ks.map (·.length)).sum=(aX ks).length:=by
 unfold aX
 rw [List.length_flatten,List.map_map]
 rfl
def Sub (x z:List Nat):Prop:=∀ c∈x,c∈z
theorem fJ {α β:Type} (f:α→β):∀ (ys:List α) (k:Nat),(ys.map f).eraseIdx k=(ys.eraseIdx k).map f
 | [],_=>rfl
 | _ :: _,0=>rfl
 | y :: ys,k+1=>by
  show f y :: (ys.map f).eraseIdx k=f y :: (ys.eraseIdx k).map f
  rw [fJ f ys k]
theorem DF {n:Nat} {i:Int} (h0:0≤i) (h1:i < (n:Int)):seqIndex? i n=some i.toNat:=PySem.seqIndex_of h0 h1
theorem kr:∀ (us:List Nat) (d:Nat) (h:d < us.length),([us[d]]++us.eraseIdx d).Perm us
 | [],_,h=>absurd h (Nat.not_lt_zero _)
 | a :: r,0,_=>List.Perm.refl _
 | a :: r,d+1,h=>by
  have h':d < r.length:=Nat.lt_of_succ_lt_succ h
  show (r[d] :: a :: r.eraseIdx d).Perm (a :: r)
  exact (List.Perm.swap _ _ _).trans (List.Perm.cons a (kr r d h'))
theorem rl {l:List Nat} {i c:Nat} (hn:l.Nodup) (h:l[i]?=some c):l.idxOf c=i:=by
 obtain ⟨hi,e⟩:=List.getElem?_eq_some_iff.mp h
 rw [← e]
 exact hn.idxOf_getElem i hi
theorem rj {z:Str} {c:Nat} (hn:(li z).Nodup) (hm:c∈li z):∃ rest,Builtin.Str.occurrences z (mk1 c) 0 z.length 1=(li z).idxOf c :: rest:=by
 have h1:=StrLaws.found_one z c
 rw [decide_eq_true hm] at h1
 cases ho:Builtin.Str.occurrences z ⟨#[c]⟩ 0 z.length 1 with
 | nil=>rw [ho] at h1; cases h1
 | cons i rest =>
  have h2:=StrLaws.occ_spec z ⟨#[c]⟩ 0 z.length 1 i (by rw [ho]; exact List.mem_cons_self)
  have h3:=(StrLaws.subAt_one z c i).mp h2
  rw [rl hn h3]
  exact ⟨rest,ho⟩
end L2
namespace L2
open PySem PySem.Spec PyProof.Rows
section
variable {prog:Program} {w:World} {A:Around} {E:Value→Shared→Prop} {s:Shared}
end
section
variable {prog:Program} {w:World} {A:Around} {E:Value→Shared→Prop} {s:Shared}
end
section
variable {X:Cx} {K:PySem.W.Frag}
def gm (z y:Str):Bool:=!(Builtin.Str.occurrences z y 0 z.length 1).isEmpty
def GB (neg:Bool):R2:=fun x y H Q=>∃ a b,x=.str a∧y=.str b∧Q (.bl (if neg then !gm b a else gm b a)) H
theorem op_inS:OpR X (compareOp .In) (GB false):=by
 intro pins s σ H x y v u Q I rx ry h
 obtain ⟨a,b,rfl,rfl,q⟩:=h
 obtain ⟨t,rfl⟩:=rx
 obtain ⟨t2,rfl⟩:=ry
 exact PySem.P.in_str ⟨.bl _,H,I,rfl,q⟩
end
section
open PySem.SeqAt
end
end L2
namespace L2
open PySem PySem.Spec PyProof.Rows
theorem df:∀ (names:List (Str × NameKind)) (n:Nat) (acc:List (Str × Addr)),cellsFrom n names acc=cellsFrom n names []++acc
 | [],_,_=>rfl
 | (x,k) :: r,n,acc=>by
  unfold cellsFrom
  split
  ·rw [df r (n+1) ((x,n) :: acc),df r (n+1) [(x,n)],List.append_assoc]
   rfl
  ·exact df r n acc
theorem eK:∀ (names:List (Str × NameKind)) (n:Nat) (acc:List (Str × Addr)) {x:Str} {c:Addr},(x,c)∈cellsFrom n names acc→(x,c)∈acc∨(x,NameKind.cell)∈names
 | [],_,_,_,_,h=>.inl h
 | (y,k) :: r,n,acc,x,c,h=>by
  unfold cellsFrom at h
  split at h
  ·rename_i hk
   rcases eK r _ _ h with h | h
   ·rcases List.mem_cons.mp h with e | e
    ·have hk':k=.cell:=by simpa using hk
     have e':=(Prod.mk.inj e).1
     rw [e',← hk']
     exact .inr List.mem_cons_self
    ·exact .inl e
   ·exact .inr (List.mem_cons_of_mem _ h)
  ·rcases eK r _ _ h with h | h
   ·exact .inl h
   ·exact .inr (List.mem_cons_of_mem _ h)
theorem dX:∀ (names:List (Str × NameKind)) (n:Nat) (acc:List (Str × Addr)) {p:Str × Addr},p∈acc→p∈cellsFrom n names acc
 | [],_,_,_,h=>h
 | (y,k) :: r,n,acc,p,h=>by
  unfold cellsFrom
  split
  ·exact dX r _ _ (List.mem_cons_of_mem _ h)
  ·exact dX r _ _ h
theorem eP:∀ (names:List (Str × NameKind)) (n:Nat) (acc:List (Str × Addr)) {x:Str},(x,NameKind.cell)∈names→∃ c,(x,c)∈cellsFrom n names acc
 | [],_,_,_,h=>by simp at h
 | (y,k) :: r,n,acc,x,h=>by
  unfold cellsFrom
  rcases List.mem_cons.mp h with e | e
  ·cases e
   rw [if_pos (by rfl)]
   exact ⟨n,dX r _ _ List.mem_cons_self⟩
  ·split
   ·exact eP r _ _ e
   ·exact eP r _ _ e
theorem m4 {α:Type}:∀ {a b:List (Str × α)} {x:Str} {c:α},(a++b).lookup x=some c→a.lookup x=some c∨(a.lookup x=none∧b.lookup x=some c)
 | [],_,_,_,h=>.inr ⟨rfl,h⟩
 | (n,v) :: r,b,x,c,h=>by
  rw [List.cons_append,List.lookup_cons] at h
  rw [List.lookup_cons]
  cases e:x == n with
  | true=>rw [e] at h; exact .inl h
  | false=>rw [e] at h; exact m4 h
theorem iw {α:Type}:∀ {a b:List (Str × α)} {x:Str} {c:α},a.lookup x=some c→(a++b).lookup x=some c
 | [],_,_,_,h=>by simp at h
 | (n,v) :: r,b,x,c,h=>by
  rw [List.cons_append,List.lookup_cons]
  rw [List.lookup_cons] at h
  cases e:x == n with
  | true=>rw [e] at h; exact h
  | false=>rw [e] at h; exact iw h
theorem gI {α:Type}:∀ {a b:List (Str × α)} {x:Str} {c:α},a.lookup x=none→b.lookup x=some c→(a++b).lookup x=some c
 | [],_,_,_,_,h=>h
 | (n,v) :: r,b,x,c,hn,h=>by
  rw [List.cons_append,List.lookup_cons]
  rw [List.lookup_cons] at hn
  cases e:x == n with
  | true=>rw [e] at hn; cases hn
  | false=>rw [e] at hn; exact gI hn h
theorem gD {env:Env}:∀ {names:List (Str × NameKind)} {x:Str},names.lookup x=some .cell →
  (names.map fun (n,k)=>if (k == NameKind.free && env.scope.kind == .function && env.kindOf n == some .cell) then (n,NameKind.cell) else (n,k)).lookup x=some .cell
 | [],_,h=>by simp at h
 | (n,k) :: r,x,h=>by
  show List.lookup x ((if (k == NameKind.free && env.scope.kind == .function && env.kindOf n == some .cell)=true then (n,NameKind.cell) else (n,k)) :: _)=_
  cases hx:x == n with
  | true =>
   simp only [List.lookup_cons,hx] at h
   cases h
   simp [List.lookup_cons,hx]
  | false =>
   simp only [List.lookup_cons,hx] at h
   by_cases hc:(k == NameKind.free && env.scope.kind == .function && env.kindOf n == some .cell)=true
   ·rw [if_pos hc]; simp only [List.lookup_cons,hx]; exact gD h
   ·rw [if_neg hc]; simp only [List.lookup_cons,hx]; exact gD h
abbrev aR (X:Cx) (scope:Scope) (ns:List Str) (C:Addr) (cl:List (Str × Addr)) (s₀:Shared) (H₀:Hp) (fp:List Addr):Cx :=
 { X with N:=ns,s₀:=s₀,H₀:=H₀,env:=compEnvC scope cl C X.env,outer:=X.stack,ex:=fp,fn:=fun x=>scope.names.lookup x == some NameKind.cell,pn:=[],xe:=fun _ _=>False }
structure BlkOkC (X:Cx) (scope:Scope) (ns:List Str) (js:List (Option Nat)):Prop where
 kind:scope.kind=.function
 uniq:∀ y∈scope.names,y.2=.cell→scope.names.lookup y.1=some .cell
 names:∀ y∈scope.names,y.2=.local→scope.names.lookup y.1=some .local
 free:∀ y∈scope.names,y.2=.free→X.env.kindOf y.1=some .cell∨X.env.kindOf y.1=some .free
 nd:ns.Nodup
 len:js.length=ns.length
 out:∀ (i:Nat) (x:Str) (j:Nat),ns[i]?=some x→js[i]?=some (some j)→X.N[j]?=some x∧scope.names.lookup x=some .free
def jc (N:List Str) (sc scope:Scope) (ns:List Str) (js:List (Option Nat)):Bool :=
 decide (scope.kind=.function) && scope.names.all (fun y=>decide (y.2=.cell→scope.names.lookup y.1=some .cell)) && scope.names.all (fun y=>decide (y.2=.local→scope.names.lookup y.1=some .local)) &&
 scope.names.all (fun y=>decide (y.2=.free→sc.names.lookup y.1=some .cell∨sc.names.lookup y.1=some .free)) && decide ns.Nodup && decide (js.length=ns.length) &&
 (List.range ns.length).all (fun i=>match js[i]?,ns[i]? with
  | some (some j),some x=>decide (N[j]?=some x) && decide (scope.names.lookup x=some .free)
  | _,_=>true)
theorem oW {N:List Str} {scope:Scope} {ns:List Str} {js:List (Option Nat)} (h7:∀ i < ns.length,(match js[i]?,ns[i]? with
  | some (some j),some x=>decide (N[j]?=some x) && decide (scope.names.lookup x=some .free)
  | _,_=>true)=true) {i:Nat} {x:Str} {j:Nat} (e1:ns[i]?=some x) (e2:js[i]?=some (some j)):N[j]?=some x∧scope.names.lookup x=some .free:=by
 have q:=h7 i (List.getElem?_eq_some_iff.mp e1).1
 rw [e1,e2] at q
 simpa using q
theorem BlkOkC.of {X:Cx} {scope:Scope} {ns:List Str} {js:List (Option Nat)} {N0:List Str} {sc0:Scope} (hN:X.N=N0) (hS:X.env.scope=sc0) (h:jc N0 sc0 scope ns js=true):BlkOkC X scope ns js:=by
 unfold jc at h
 simp only [Bool.and_eq_true,List.all_eq_true,decide_eq_true_eq,List.mem_range] at h
 obtain ⟨⟨⟨⟨⟨⟨h1,h2⟩,h3⟩,h4⟩,h5⟩,h6⟩,h7⟩:=h
 refine ⟨h1,fun y hy=>h2 y hy,fun y hy=>h3 y hy,fun y hy hk=>?_,h5,h6,fun i x j e1 e2=>?_⟩
 ·have q:=h4 y hy hk
  rw [← hS] at q
  exact q
 ·rw [hN]
  exact oW h7 e1 e2
section
variable {M:Model} {A:Around} {E:Value→Shared→Prop} {s:Shared}
theorem fE {scope:Scope} {globals:Addr} {closure:List (Str × Addr)} {qual:Str} {outer:Env} {builtins:Addr} {Q:Env→Shared→Prop}
  (hQ:Q (newEnv scope s.heap.objs.size globals (cellsFrom (s.heap.objs.size+1) scope.names closure) qual none .none (some outer) builtins) { s with heap:=pushCells (s.heap.push { cls:=.type "dict",data:=.dict #[] }) scope.names }) :
  wpAny M A (newFunctionEnv scope globals closure [] qual none .none (some outer) builtins) Q E s:=by
 simp only [newFunctionEnv,Option.isSome_some,if_true]
 refine wpAny_bind (wpAny_alloc ?_)
 refine wpAny_bind (wpAny_layCells _ (fun name kind cells=>by cases hkc:kind == NameKind.cell <;> simp [hkc]) _ _ _ _ ?_)
 rw [show ({ s with heap:=s.heap.push { cls:=.type "dict",data:=.dict #[] } }:Shared).heap.objs.size=s.heap.objs.size+1 from Heap.size_push ..]
 rw [List.forIn_nil]
 exact wpAny_bind (wpAny_pure (wpAny_pure hQ))
end
section
variable {X:Cx} {elt tg iter:Expr} {ifs:List Expr} {scope:Scope} {pos:Pos} {ns:List Str} {js:List (Option Nat)} {wi:TI} {g:TG} {tt:TT} {te:TE}
theorem ua {pins:List (Addr × Obj)} {s3:Shared} {σ:St} {H3:Hp} {fp:List Addr} {h₁:Heap} {tk:Nat} (B:BlkOkC X scope ns js) (I3:Inv X pins σ H3 s3)
  (f3:∀ b∈fp,fA X pins H3 b) (lt3:∀ b∈fp,b < s3.heap.objs.size) (hns:h₁.Ns s3.heap.objs.size (fun _=>none)) (old:∀ b u,s3.heap.get? b=some u→h₁.get? b=some u)
  (cok:CellsOk h₁ (s3.heap.objs.size+1) (cellsFrom (s3.heap.objs.size+1) scope.names [])) :
  Inv (aR X scope ns s3.heap.objs.size (cellsFrom (s3.heap.objs.size+1) scope.names (cD X.env scope.names)) s3 H3 fp) [] (dg js σ) H3 { s3 with heap:=h₁,toks:=tk }:=by
 rw [df]
 have hmem:∀ {x:Str} {c:Addr},(x,c)∈cellsFrom (s3.heap.objs.size+1) scope.names []→scope.names.lookup x=some .cell:=fun {x c} h=>by
  rcases eK _ _ _ h with h | h
  ·simp at h
  ·exact B.uniq _ h rfl
 have hhas:∀ {x:Str},scope.names.lookup x=some .cell→∃ c,(cellsFrom (s3.heap.objs.size+1) scope.names []).lookup x=some c:=fun {x} h=>by
  obtain ⟨c,hc⟩:=eP scope.names (s3.heap.objs.size+1) [] (PySem.mem_of_lookup h)
  exact eJ hc
 generalize cellsFrom (s3.heap.objs.size+1) scope.names []=CS at cok hmem hhas
 have has:∀ y∈scope.names,y.2=.free→∃ c,X.env.cells.lookup y.1=some c:=fun y hy hk=>I3.ok.has y.1 (B.free y hy hk)
 have look:∀ {n:Str} {c:Addr},(CS++cD X.env scope.names).lookup n=some c→(CS.lookup n=some c∧h₁.IsCell c none∧s3.heap.objs.size+1≤c)∨(CS.lookup n=none∧X.env.cells.lookup n=some c∧c < s3.heap.objs.size):=fun {n c} e=>by
  rcases m4 e with e | ⟨e1,e2⟩
  ·exact .inl ⟨e,cok.empty n c (PySem.mem_of_lookup e)⟩
  ·have e3:=lW has e2
   obtain ⟨v,hv⟩:=I3.cell n c e3
   exact .inr ⟨e1,e3,hv.lt⟩
 refine ⟨⟨I3.ok.mod,B.kind,I3.ok.glob,I3.ok.blt,Nat.le_refl _,fun y z c h1 h2=>?_,fun y hy=>?_,fun y c hf h=>?_,I3.ok.hd,I3.ok.frames,.inl rfl,fun b hb=>?_,I3.bs,Nat.le_trans I3.ok.bsz I3.sz,
   fun b o e hb=>?_,fun b hb z=>?_,I3.stack,I3.stkFree⟩,
  rfl,I3.bare,Un.kept old,⟨_,hns,fun i x v h1 h2 h3=>?_⟩,fun y c h=>?_,I3.fresh,fun y c h=>?_,fun p hp=>absurd (show p∈([]:List (Addr × Obj)) from hp) (by simp),I3.hok.kept old,?_⟩
 ·rcases look h1 with ⟨a1,_,a3⟩ | ⟨_,a2,a3⟩ <;> rcases look h2 with ⟨b1,_,b3⟩ | ⟨_,b2,b3⟩
  ·exact name_of_addr cok.apart (PySem.mem_of_lookup a1) (PySem.mem_of_lookup b1)
  ·exact absurd (Nat.lt_of_lt_of_le (Nat.lt_of_lt_of_le b3 (Nat.le_succ _)) a3) (Nat.lt_irrefl _)
  ·exact absurd (Nat.lt_of_lt_of_le (Nat.lt_of_lt_of_le a3 (Nat.le_succ _)) b3) (Nat.lt_irrefl _)
  ·exact I3.ok.inj y z c a2 b2
 ·have hf:scope.names.lookup y=some .cell∨scope.names.lookup y=some .free:=by
   rcases hy with hy | hy
   ·rcases gB (env:=X.env) hy with q | q
    ·exact .inl q
    ·exact .inr q.1
   ·rcases gB (env:=X.env) hy with q | q
    ·exact .inr q
    ·exact .inr q.1
  show ∃ c,(CS++cD X.env scope.names).lookup y=some c
  rcases hf with hf | hf
  ·obtain ⟨c,hc⟩:=hhas hf
   exact ⟨c,iw hc⟩
  ·obtain ⟨c,hc⟩:=nB (env:=X.env) (PySem.mem_of_lookup hf)
   cases e:CS.lookup y with
   | none=>exact ⟨c,gI e hc⟩
   | some d=>exact ⟨d,iw e⟩
 ·rcases look h with ⟨_,_,a3⟩ | ⟨a1,_,_⟩
  ·show s3.heap.objs.size≤c
   omega
  ·have hf':(scope.names.lookup y == some NameKind.cell)=true:=hf
   obtain ⟨d,hd⟩:=hhas (by simpa using hf')
   rw [a1] at hd
   cases hd
 ·refine ⟨Nat.ne_of_lt (lt3 b hb),fun x c e=>?_⟩
  rcases look e with ⟨_,_,a3⟩ | ⟨_,a2,_⟩
  ·have:=lt3 b hb
   intro z
   subst z
   exact Nat.lt_irrefl _ (Nat.lt_of_lt_of_le (Nat.lt_of_lt_of_le this (Nat.le_succ _)) a3)
  ·exact (f3 b hb).2.2.2.2.1 x c a2
 ·rcases (f3 b hb).2.2.2.1 with z | z
  ·exact I3.ok.noex b o e z
  ·exact absurd (Nat.lt_of_lt_of_le (Nat.lt_of_lt_of_le (Heap.lt_size e) I3.ok.bsz) z) (Nat.lt_irrefl _)
 ·rcases List.mem_cons.mp (I3.stkSub b z) with q | q
  ·exact (f3 b hb).2.1 q
  ·exact (f3 b hb).2.2.1 q
 ·have h2':(js.map fun j=>match j with | some j=>(σ[j]?).join | none=>none)[i]?=some (some v):=h2
  rw [List.getElem?_map] at h2'
  obtain ⟨j,hj,hσ⟩:∃ j,js[i]?=some (some j)∧σ[j]?=some (some v):=by
   cases e:js[i]? with
   | none=>rw [e] at h2'; simp at h2'
   | some oj =>
    rw [e] at h2'
    cases oj with
    | none=>simp at h2'
    | some j =>
     refine ⟨j,rfl,?_⟩
     have q:(σ[j]?).join=some v:=by simpa using h2'
     cases e2:σ[j]? with
     | none=>rw [e2] at q; simp at q
     | some ov =>
      rw [e2] at q
      simp at q
      rw [q]
  obtain ⟨hN,hfr⟩:=B.out i x j h1 hj
  have hf:=B.free (x,.free) (PySem.mem_of_lookup hfr) rfl
  have hf':X.env.kindOf x=some .cell∨X.env.kindOf x=some .free:=hf
  obtain ⟨m,hn,hl⟩:=I3.loc
  obtain ⟨u,r,l⟩:=hl j x v hN hσ (by
   rcases hf' with z | z
   ·exact .inr (.inl z)
   ·exact .inr (.inr z))
  refine ⟨u,r,?_⟩
  rcases l with ⟨hk,_⟩ | ⟨hk,c,hc,hcell⟩
  ·rcases hf' with z | z
   ·rw [z] at hk; cases hk
   ·rw [z] at hk; cases hk
  ·obtain ⟨c',hc'⟩:=nB (env:=X.env) (PySem.mem_of_lookup hfr)
   have e':=lW has hc'
   rw [hc] at e'
   cases e'
   obtain ⟨o,ho,hd⟩:=hcell
   have hno:CS.lookup x=none:=by
    cases e:CS.lookup x with
    | none=>rfl
    | some d =>
     have q:=hmem (PySem.mem_of_lookup e)
     rw [hfr] at q
     cases q
   exact .inr ⟨gC (env:=X.env) hfr,c,gI hno hc',⟨o,old c o ho,hd⟩⟩
 ·rcases look h with ⟨_,a2,_⟩ | ⟨_,a2,_⟩
  ·exact ⟨_,a2⟩
  ·obtain ⟨v,o,ho,hd⟩:=I3.cell y c a2
   exact ⟨v,o,old c o ho,hd⟩
 ·rcases look h with ⟨_,_,a3⟩ | ⟨_,a2,_⟩
  ·exact I3.hok.fresh (by omega)
  ·exact I3.freeC y c a2
 ·show (js.map _).length=ns.length
  rw [List.length_map]
  exact B.len
theorem m6 {pins:List (Addr × Obj)} {s2:Shared} {σ:St} {H2:Hp} {Qv:VK} {J:It} {fp:List Addr} {it:Addr} {tn:Nat→Heap→Prop} {RR:Value→Addr→Result→Shared→Prop}
  (B:BlkOkC X scope ns js) (hc:X.calm=true) (I2:Inv X pins σ H2 s2) (T:Turn X.prog X.w X.K tg J fp it tn) (st2:tn 0 s2.heap) (f2:∀ b∈fp,fA X pins H2 b)
  (hg:∀ C cl s₀ H₀ fp,PG (aR X scope ns C cl s₀ H₀ fp) tg g) (ht:∀ C cl s₀ H₀ fp,PTs (aR X scope ns C cl s₀ H₀ fp) ifs tt) (he:∀ C cl s₀ H₀ fp,PE (aR X scope ns C cl s₀ H₀ fp) elt te)
  (hw:∀ D,H2 D=none→zJ J g tt te (dg js σ) H2 D Qv)
  (hRR:∀ D C s' H',Inv X pins σ H' s'→Qv (.ref D) H'→(∃ m,s'.heap.Ns C m)→H' C=none→C≠X.env.locals→X.s₀.heap.objs.size≤C→(∀ x c,X.env.cells.lookup x=some c→c≠C)→(∀ p∈X.pn++pins,p.1≠C)→RR (.ref D) C (.ok .next) s') :
  wpAny (model X.prog X.w) X.A (newList []) (fun acc s₃=>wpAny (model X.prog X.w) X.A (newFunctionEnv scope X.env.globals (cD X.env scope.names) [] X.env.qual none .none (some X.env)) (fun cenv s₄ =>
   codeAny (model X.prog X.w) X.A (.compStart (.ListComp elt [⟨tg,iter,ifs,0⟩] scope pos) 0 (.ref it) acc { cenv with scope:=relabel scope X.env }) (RR acc cenv.locals) s₄) X.xe s₃) X.xe s2:=by
 refine wpAny_newObj_type (fE ?_)
 dsimp only
 have I3:Inv X pins σ (upd H2 s2.heap.objs.size (.lst [])) { s2 with heap:=s2.heap.push { cls:=.type "list",data:=.seq ([]:List Value).toArray },toks:=s2.toks }:=I2.lnew .nil (Nat.zero_le _)
 generalize hs3:({ s2 with heap:=s2.heap.push { cls:=.type "list",data:=.seq ([]:List Value).toArray },toks:=s2.toks }:Shared)=s3 at I3
 have e3:s3.heap=s2.heap.push { cls:=.type "list",data:=.seq ([]:List Value).toArray }:=by rw [← hs3]
 have k3:∀ b u,s2.heap.get? b=some u→s3.heap.get? b=some u:=fun b u e=>by rw [e3]; exact Heap.get?_push_of_some _ e
 have sz3:s3.heap.objs.size=s2.heap.objs.size+1:=by rw [e3,Heap.size_push]
 have hD:H2 s2.heap.objs.size=none:=I2.fresh
 obtain ⟨h₁,hh₁⟩:∃ h₁,h₁=pushCells (s3.heap.push { cls:=.type "dict",data:=.dict #[] }) scope.names:=⟨_,rfl⟩
 have old:∀ b u,s3.heap.get? b=some u→h₁.get? b=some u:=fun b u e=>by
  rw [hh₁]
  exact pushCells_keeps _ _ b u (Heap.get?_push_of_some _ e)
 have hns:h₁.Ns s3.heap.objs.size (fun _=>none):=by
  rw [hh₁]
  exact (Heap.Ns.new s3.heap (.type "dict")).keeps (pushCells_keeps _ _)
 have cok:CellsOk h₁ (s3.heap.objs.size+1) (cellsFrom (s3.heap.objs.size+1) scope.names []):=by
  have q:=cellsFrom_ok scope.names (s3.heap.push { cls:=.type "dict",data:=.dict #[] }) (s3.heap.objs.size+1) [] ⟨fun _ _ hm=>(nomatch hm),List.Pairwise.nil⟩ (by rw [Heap.size_push]; exact Nat.le_refl _)
  rw [Heap.size_push,← hh₁] at q
  exact q
 have obj2:∀ b∈fp,b < s2.heap.objs.size:=fun b hb=>let ⟨o,e,_⟩:=T.obj 0 _ st2 b hb; Heap.lt_size e
 have f3:∀ b∈fp,fA X pins (upd H2 s2.heap.objs.size (.lst [])) b:=fun b hb=>⟨by rw [aF (Nat.ne_of_lt (obj2 b hb))]; exact (f2 b hb).1,(f2 b hb).2⟩
 have lt3:∀ b∈fp,b < s3.heap.objs.size:=fun b hb=>by rw [sz3]; exact Nat.lt_succ_of_lt (obj2 b hb)
 obtain ⟨W,⟨m0,w0⟩,turn⟩:=hw _ hD
 have J0:=fun tk=>ua (tk:=tk) B I3 f3 lt3 hns old cok
 have has:∀ y∈scope.names,y.2=.free→∃ c,X.env.cells.lookup y.1=some c:=fun y hy hk=>I2.ok.has y.1 (B.free y hy hk)
 have stat:∀ {H':Hp},(∀ b∈fp,H' b=none)→∀ b∈fp,fA (aR X scope ns s3.heap.objs.size (cellsFrom (s3.heap.objs.size+1) scope.names (cD X.env scope.names)) s3 (upd H2 s2.heap.objs.size (.lst [])) fp) [] H' b:=fun hn b hb =>
  ⟨hn b hb,Nat.ne_of_lt (lt3 b hb),(J0 0).ok.exfs b hb,.inl hb,fun x c e=>(J0 0).ok.exf b hb |>.2 x c e,fun p hp=>absurd (show p∈([]:List (Addr × Obj)) from hp) (by simp)⟩
 have fin:∀ {τ:St} {H':Hp} {s':Shared},Inv (aR X scope ns s3.heap.objs.size (cellsFrom (s3.heap.objs.size+1) scope.names (cD X.env scope.names)) s3 (upd H2 s2.heap.objs.size (.lst [])) fp) [] τ H' s'→Qv (.ref s2.heap.objs.size) H'→RR (.ref s2.heap.objs.size) s3.heap.objs.size (.ok .next) s':=fun {τ H' s'} I6 q=>by
  have u1:Un (frs X.stack) fp H2 (upd H2 s2.heap.objs.size (.lst [])) s2.heap s3.heap:=Un.laid k3 (Nat.le_refl _) hD
  have os3:s3.os=s2.os:=by rw [← hs3]
  have I7:Inv X pins σ H' s':=I2.call' (ch:=fp) (I6.os.trans os3) (u1.trans I6.base) I6.hok I6.bare fun b hb=>⟨(f2 b hb).2.2.2.1,(f2 b hb).2.1,(f2 b hb).2.2.2.2.1,(f2 b hb).2.2.2.2.2⟩
  have le2:s2.heap.objs.size≤s3.heap.objs.size:=by rw [sz3]; exact Nat.le_succ _
  refine hRR _ _ s' H' I7 q ?_ I6.free (Nat.ne_of_gt (Nat.lt_of_lt_of_le I2.lt le2)) (Nat.le_trans I2.sz le2) (fun x c e z=>?_) fun p hp z=>?_
  ·obtain ⟨m,hn,_⟩:=I6.loc
   exact ⟨m,hn⟩
  ·obtain ⟨v,hv⟩:=I2.cell x c e
   exact absurd (Nat.lt_of_lt_of_le hv.lt (by rw [z]; exact le2)) (Nat.lt_irrefl _)
  ·exact absurd (Nat.lt_of_lt_of_le (Heap.lt_size (I2.pin p hp).1) (by rw [z]; exact le2)) (Nat.lt_irrefl _)
 rw [← e3,← hh₁]
 have loop:∀ tk,codeAny (model X.prog X.w) X.A (.compLoop (.ListComp elt [⟨tg,iter,ifs,0⟩] scope pos) 0 (.ref it) (.ref s2.heap.objs.size) (compEnvC scope (cellsFrom (s3.heap.objs.size+1) scope.names (cD X.env scope.names)) s3.heap.objs.size X.env))
   (RR (.ref s2.heap.objs.size) s3.heap.objs.size) { s3 with heap:=h₁,toks:=tk }:=fun tk=>by
  refine codeAny_loop rfl (fun n s'=>∃ i τ H',Inv (aR X scope ns s3.heap.objs.size (cellsFrom (s3.heap.objs.size+1) scope.names (cD X.env scope.names)) s3 (upd H2 s2.heap.objs.size (.lst [])) fp) [] τ H' s'∧tn i s'.heap∧(∀ b∈fp,H' b=none)∧W i n τ H') (fun n s5 hI=>?_) m0
   ⟨0,_,_,J0 tk,T.keep _ _ _ st2 fun b _ o e=>old b o (k3 b o e),fun b hb=>(f3 b hb).1,w0⟩
  obtain ⟨i,τ,H5,I5,st5,fr5,w5⟩:=hI
  show wpAny _ X.A ((compTurn (.ListComp elt [⟨tg,iter,ifs,0⟩] scope pos) 0 (.ref it) (.ref s2.heap.objs.size) (compEnvC scope (cellsFrom (s3.heap.objs.size+1) scope.names (cD X.env scope.names)) s3.heap.objs.size X.env)).onRaise (fun x=>do noteFrame x (compEnvC scope (cellsFrom (s3.heap.objs.size+1) scope.names (cD X.env scope.names)) s3.heap.objs.size X.env); theTreesLotGoes x)) _ _ s5
  refine wpAny_noted ?_
  rw [compTurn_list]
  refine wpAny_bind (wpAny_standAt (wpAny_bind ?_))
  rcases turn i n τ H5 w5 with ⟨stop,qn⟩ | ⟨go,N,hN,step⟩
  ·refine thn (T.done (aR X scope ns s3.heap.objs.size (cellsFrom (s3.heap.objs.size+1) scope.names (cD X.env scope.names)) s3 (upd H2 s2.heap.objs.size (.lst [])) fp) rfl rfl rfl hc i [] s5 τ H5 _ I5 (stat fr5) st5 stop) fun r s6 ⟨hr,I6⟩=>?_
   subst hr
   exact wpAny_pure (fin I6 qn)
  ·refine thn (T.item (aR X scope ns s3.heap.objs.size (cellsFrom (s3.heap.objs.size+1) scope.names (cD X.env scope.names)) s3 (upd H2 s2.heap.objs.size (.lst [])) fp) rfl rfl rfl hc i [] s5 τ H5 _ I5 (stat fr5) st5 go) fun r s6 ⟨u,hr,h6⟩=>?_
   subst hr
   dsimp only
   refine wpAny_bind (thn h6 fun _ s7 ⟨x,H7,I7,r7,y7,st7,fr7⟩=>?_)
   have I7':=I7.pinned (stat fr7) (T.obj _ _ st7)
   have back:∀ {τ9:St} {H9:Hp} {s9:Shared},Inv (aR X scope ns s3.heap.objs.size (cellsFrom (s3.heap.objs.size+1) scope.names (cD X.env scope.names)) s3 (upd H2 s2.heap.objs.size (.lst [])) fp) ([]++ir fp s7.heap) τ9 H9 s9 →
     Inv (aR X scope ns s3.heap.objs.size (cellsFrom (s3.heap.objs.size+1) scope.names (cD X.env scope.names)) s3 (upd H2 s2.heap.objs.size (.lst [])) fp) [] τ9 H9 s9∧tn (i+1) s9.heap∧∀ b∈fp,H9 b=none:=fun {τ9 H9 s9} I9=>by
    refine ⟨I9.unpinned,T.keep _ _ _ st7 fun b hb o e=>(I9.pin (b,o) (List.mem_append_right _ (List.mem_append_right _ (eR hb e)))).1,fun b hb=>?_⟩
    obtain ⟨o,e,d⟩:=T.obj _ _ st7 b hb
    exact (I9.pin (b,o) (List.mem_append_right _ (List.mem_append_right _ (eR hb e)))).2.1
   refine wpAny_bind (thF (hg _ _ _ _ _ _ s7 τ H7 x u _ I7' r7 (step x H7 y7)) fun _ s8 ⟨τ8,H8,I8,q8⟩=>?_)
   refine wpAny_bind (thF (ht _ _ _ _ _ _ s8 τ8 H8 _ I8 q8) fun b s9 ⟨H9,I9,q9⟩=>?_)
   cases b with
   | false =>
    rw [if_neg Bool.false_ne_true] at q9
    obtain ⟨m',hm,w9⟩:=hN _ _ q9
    obtain ⟨a1,a2,a3⟩:=back I9
    exact wpAny_pure ⟨rfl,m',hm,i+1,τ8,H9,a1,a2,a3,w9⟩
   | true =>
    rw [if_pos rfl] at q9
    refine wpAny_bind (wpAny_bind (thF (he _ _ _ _ _ _ s9 τ8 H9 _ I9 q9) fun v s10 ⟨y,H10,I10,r10,q10⟩=>?_))
    obtain ⟨xs,hx,hz,n10⟩:=q10
    obtain ⟨m',hm,w10⟩:=hN _ _ n10
    refine wpAny_bind (thF (lL _ s10 τ8 H10 (.ref s2.heap.objs.size) [y] (.ref s2.heap.objs.size) [v] (fun _ H11=>W (i+1) m' τ8 H11) I10 rfl (.cons r10 .nil) ⟨_,xs,y,rfl,rfl,hx,hz,w10⟩) fun _ s11 ⟨_,H11,I11,_,q11⟩=>?_)
    obtain ⟨a1,a2,a3⟩:=back I11
    exact wpAny_pure (wpAny_pure ⟨rfl,m',hm,i+1,τ8,H11,a1,a2,a3,q11⟩)
 have hst1:tn 0 h₁:=T.keep _ _ _ st2 fun b _ o e=>old b o (k3 b o e)
 subst hs3
 exact codeAny_compStart_list (loop _) (T.self _ 0 _ _ _ hst1 (loop _))
theorem D3 (B:BlkOkC X scope ns js) (hc:X.calm=true) (hi:PI X tg iter wi)
  (hg:∀ C cl s₀ H₀ fp,PG (aR X scope ns C cl s₀ H₀ fp) tg g) (ht:∀ C cl s₀ H₀ fp,PTs (aR X scope ns C cl s₀ H₀ fp) ifs tt) (he:∀ C cl s₀ H₀ fp,PE (aR X scope ns C cl s₀ H₀ fp) elt te)
  (hs:∀ x,foldedSetIterable iter X.env x=pure x:=by intro _; rfl):PE X (.ListComp elt [⟨tg,iter,ifs,0⟩] scope pos) (tLC wi g tt te js):=by
 intro pins s σ H Q I h
 rw [eval_ListComp]
 have hclos:=kw (scope:=scope) (env:=X.env) (fun y hy hk=>I.ok.has y.1 (B.free y hy hk))
 refine wpAny_comprehension_free (use:=none) rfl hs hclos B.kind B.names (thn (hi pins s σ H _ I h) fun v s1 h1=>thn h1 fun itv s2 h2=>?_)
 obtain ⟨it,fp,tn,J,H2,e,I2,T,st2,f2,hw⟩:=h2
 subst e
 refine m6 (RR:=fun acc C=>compPost (model X.prog X.w) X.A X.xe none (EP X pins σ Q) acc C) B hc I2 T st2 f2 hg ht he hw ?_
 intro D C s' H' I' q hm c0 c1 c2 c3 c4
 obtain ⟨m,hn⟩:=hm
 exact ⟨m,hn,fun h' hs'=>⟨.ref D,H',I'.turned (t':=s'.toks) (fun b o hb e=>(hs'.2 b hb).trans e) c0 c1 (.inr c2) c3 c4,rfl,q⟩⟩
theorem qH {i:Nat} {x:Str} {spos pos':Pos} (hN:X.N.Nodup) (hi':X.N[i]?=some x) (hx:X.env.scope.names.lookup x=some .local) (B:BlkOkC X scope ns js) (hc:X.calm=true) (hi:PI X tg iter wi)
  (hg:∀ C cl s₀ H₀ fp,PG (aR X scope ns C cl s₀ H₀ fp) tg g) (ht:∀ C cl s₀ H₀ fp,PTs (aR X scope ns C cl s₀ H₀ fp) ifs tt) (he:∀ C cl s₀ H₀ fp,PE (aR X scope ns C cl s₀ H₀ fp) elt te)
  (hsw:swapsWith (.ListComp elt [⟨tg,iter,ifs,0⟩] scope pos) (some (.Name x pos')) spos.line X.env=pure true:=by rfl)
  (hs:∀ x,foldedSetIterable iter X.env x=pure x:=by intro _; rfl):PS X (.Assign [.Name x pos'] (.ListComp elt [⟨tg,iter,ifs,0⟩] scope pos) spos) (mJ (tLC wi g tt te js) (kj i)):=by
 intro pins s σ H D I h
 rw [exec_Assign_Name_used _ _ _ _ hsw]
 have hclos:=kw (scope:=scope) (env:=X.env) (fun y hy hk=>I.ok.has y.1 (B.free y hy hk))
 refine wpAny_bind (wpAny_standAt (wpAny_bind ?_))
 show wpAny _ X.A (do let _ ← comprehension (.ListComp elt [⟨tg,iter,ifs,0⟩] scope pos) scope X.env _ (newList []) false (eval iter X.env) (some (assign (.Name x pos') X.env))) _ _ s
 refine wpAny_bind (wpAny_mono (wpAny_comprehension_free (use:=some (assign (.Name x pos') X.env)) (Q:=fun _ s'=>SP X pins D .next s') rfl hs hclos B.kind B.names
  (thn (hi pins s σ H _ I h) fun v s1 h1=>thn h1 fun itv s2 h2=>?_)) (fun _ s' hq=>wpAny_pure (wpAny_pure hq)) fun _ _ e=>e)
 obtain ⟨it,fp,tn,J,H2,e,I2,T,st2,f2,hw⟩:=h2
 subst e
 refine m6 (RR:=fun acc C=>compPost (model X.prog X.w) X.A X.xe (some (assign (.Name x pos') X.env)) (fun _ s'=>SP X pins D .next s') acc C) B hc I2 T st2 f2 hg ht he hw ?_
 intro D' C s' H' I' q hm c0 c1 c2 c3 c4
 obtain ⟨m,hn⟩:=hm
 show wpAny _ X.A (assign (.Name x pos') X.env (.ref D')) _ _ _
 refine wpAny_assign_Name (lH (v:=.ref D') I' hN hi' (.inl hx) rfl (fun s4 I4 ⟨a,hsb,ha⟩=>?_) (.inr hx))
 have ne:C≠a:=by
  rcases ha with z | z
  ·rw [z]; exact c1
  ·exact (c3 x a z).symm
 exact ⟨m,hn.sameBut hsb ne,fun h' hs'=>⟨_,H',I4.turned (t':=s4.toks) (fun b o hb e=>(hs'.2 b hb).trans e) c0 c1 (.inr c2) c3 c4,q⟩⟩
end
end L2
namespace L2
open PySem PySem.Spec PyProof.Rows
section
variable {X:Cx} {K:PySem.W.Frag}
theorem jl (ns:List Int):∀ k,k≤ns.length→preSum (fun i=>ns.getD i 0) k=(ns.take k).sum
 | 0,_=>rfl
 | k+1,h=>by
  show preSum (fun i=>ns.getD i 0) k+ns.getD k 0=_
  rw [jl ns k (by omega),PyProof.Rows.take_sum_succ ns k (by omega)]
end
end L2
namespace L2
open PySem PySem.Spec PyProof.Rows
mutual
def DV (H:Hp):V→PyData→Prop
 | v,.none=>v=.non
 | v,.bool b=>v=.bl b
 | v,.int i=>v=.int i
 | v,.str x=>v=.str x
 | v,.list ds=>∃ a xs,v=.ref a∧H a=some (.lst xs)∧DVs H xs ds
 | v,.tuple ds=>∃ a xs,v=.ref a∧H a=some (.tup xs)∧DVs H xs ds
 | _,.dict _=>False
def DVs (H:Hp):List V→List PyData→Prop
 | vs,[]=>vs=[]
 | vs,d :: ds=>∃ v r,vs=v :: r∧DV H v d∧DVs H r ds
end
section
variable {X:Cx} {pins:List (Addr × Obj)} {σ:St} {H:Hp} {s:Shared}
end
section
variable {X:Cx}
end
end L2
namespace L2
open PySem PySem.Spec PyProof.Rows
section
variable {prog:Program} {w:World} {A:Around} {E:Value→Shared→Prop} {s:Shared}
theorem pj {jt tu:Addr} {n:Nat} {vals:Array Value} {y:Value} {R:Value→Shared→Prop} (a1:s.heap.IsTupleIter jt tu n) (a2:s.heap.IsTuple tu vals) (a3:vals[n]?=some y)
  (q:∀ g,g.IsTupleIter jt tu (n+1)→Heap.SameBut jt s.heap g→R y { s with heap:=g }):wpAny (model prog w) A (Builtin.SmallTypes.nextOf (.ref jt)) R E s:=by
 obtain ⟨ob,b1,b2,b3⟩:=id a1
 obtain ⟨ot,c1,_,m,c2⟩:=a2
 unfold Builtin.SmallTypes.nextOf
 refine wpAny_bind (wpAny_callSpecial?_slot (name:=Str.ofString "__next__") a1.typeIs F.slot_tuple_iterator_next (wpAny_call_entry F.slot_tuple_iterator_next a1.typeIs F.entry_tuple_iterator_next ?_ (F.args_tuple_iterator_next_1 _)))
 show wpAny _ _ (field (.ref jt) 0 >>= _) _ _ s
 refine wpAny_bind (wpAny_field b1 b3 (x:=.ref tu) rfl ?_)
 show wpAny _ _ (if (Value.ref tu == Value.none)=true then _ else _) _ _ s
 rw [if_neg (show ¬ ((Value.ref tu == Value.none)=true) from Bool.false_ne_true)]
 show wpAny _ _ (field (.ref jt) 1 >>= _) _ _ s
 refine wpAny_bind (wpAny_field b1 b3 (x:=.int n 0) rfl ?_)
 show wpAny _ _ (seqItems? (.ref tu) >>= _) _ _ s
 refine wpAny_bind (wpAny_seqItems c1 c2 ?_)
 simp only [Int.toNat_natCast,a3]
 refine wpAny_bind (wpAny_setField b1 b3 (by simp) (wpAny_pure ⟨y,rfl,wpAny_pure (q _ ?_ (Heap.SameBut.update ..))⟩))
 refine ⟨_,Heap.get?_update_self _ b1 (Obj.isFreed_of_fields (Obj.data_mapFields b3 _)),(Obj.cls_mapFields ..).trans b2,?_⟩
 rw [Obj.data_mapFields b3]
 simp [rawInt]
theorem lF {jt tu:Addr} {n:Nat} {vals:Array Value} {R:Value→Shared→Prop} (hh:A.handled=none) (a1:s.heap.IsTupleIter jt tu n) (a2:s.heap.IsTuple tu vals) (a3:vals[n]?=none)
  (q:∀ g e,Heap.ExtBut jt s.heap g→(∃ o,g.get? e=some o∧o.cls=.type "StopIteration")→E (.ref e) { s with heap:=g }):wpAny (model prog w) A (Builtin.SmallTypes.nextOf (.ref jt)) R E s:=by
 obtain ⟨ob,b1,b2,b3⟩:=id a1
 obtain ⟨ot,c1,_,m,c2⟩:=a2
 unfold Builtin.SmallTypes.nextOf
 refine wpAny_bind (wpAny_callSpecial?_slot (name:=Str.ofString "__next__") a1.typeIs F.slot_tuple_iterator_next (wpAny_call_entry F.slot_tuple_iterator_next a1.typeIs F.entry_tuple_iterator_next ?_ (F.args_tuple_iterator_next_1 _)))
 show wpAny _ _ (field (.ref jt) 0 >>= _) _ _ s
 refine wpAny_bind (wpAny_field b1 b3 (x:=.ref tu) rfl ?_)
 show wpAny _ _ (if (Value.ref tu == Value.none)=true then _ else _) _ _ s
 rw [if_neg (show ¬ ((Value.ref tu == Value.none)=true) from Bool.false_ne_true)]
 show wpAny _ _ (field (.ref jt) 1 >>= _) _ _ s
 refine wpAny_bind (wpAny_field b1 b3 (x:=.int n 0) rfl ?_)
 show wpAny _ _ (seqItems? (.ref tu) >>= _) _ _ s
 refine wpAny_bind (wpAny_seqItems c1 c2 ?_)
 simp only [Int.toNat_natCast,a3]
 refine wpAny_bind (wpAny_rule (wpAny_bind (wpAny_setField b1 b3 (by simp) ?_)))
 show wpAny _ _ (newExc (.type "StopIteration") [] >>= _) _ _ _
 refine wpAny_bind ?_
 simp only [newExc,newTuple]
 refine wpAny_bind (wpAny_newObj_type ?_ (by show (0:Nat)≤_; exact Nat.zero_le _))
 refine wpAny_bind (m:=firstArgMember _ _) (wpAny_of_eq (a:=Value.none) (by first | rfl | (simp only [firstArgMember]; rfl)) ?_)
 refine wpAny_newObj_type ?_
 simp only [raiseNew]
 refine wpAny_bind (wpAny_handled ?_)
 first | rw [show A.in1.handled=none from hh] | rw [hh]
 refine wpAny_bind (wpAny_pure (wpAny_throw ?_))
 exact q _ _ (((Heap.SameBut.update ..).extBut.push _).push _) ⟨_,Heap.get?_push_size _ rfl,rfl⟩
theorem rP (hh:A.handled=none) (jt tu:Addr) (hne:tu≠jt) (vals:Array Value):Draws prog w A jt [jt,tu] vals.size (fun i v=>vals[i]?=some v) (fun i h=>h.IsTupleIter jt tu i∧h.IsTuple tu vals) where
 live:=fun _ _ st=>let ⟨o,ho,_⟩:=st.1; ⟨o,ho⟩
 frame:=fun _ _ _ st hk=>⟨st.1.at fun o e=>hk jt (by simp) o e,let ⟨o,ho,r⟩:=st.2; ⟨o,hk tu (by simp) o ho,r⟩⟩
 item:=fun i s Q E hi st hQ=>by
  refine pj st.1 st.2 (y:=vals[i]) (by simp [hi]) fun g st' sb=>?_
  exact hQ _ g s.toks (by simp [hi]) ⟨st',let ⟨o,ho,r⟩:=st.2; ⟨o,sb.extBut _ _ hne ho,r⟩⟩ sb
 done:=fun s Q E st hE=>lF hh st.1 st.2 (by simp) hE
end
theorem kY (tu:Addr) (vals:Array Value) (n:Nat) (dct:Option Addr) (sl:Array (Option Value)) :
  Meets (Builtin.«enumerate.__new__» ⟨[.type "enumerate",.ref tu],[]⟩) (fun _ R s=>s.heap.get? tu=some { cls:=.type "tuple",dict:=dct,data:=.seq vals n,slots:=sl } ∧
   R (.ok (.ret (.ref (s.heap.push { cls:=.type "tuple_iterator",data:=.fields #[.ref tu,.int 0 0] }).objs.size)))
    { s with heap:=(s.heap.push { cls:=.type "tuple_iterator",data:=.fields #[.ref tu,.int 0 0] }).push { cls:=.type "enumerate",data:=.fields #[.none,.bool false,.ref s.heap.objs.size,rawInt 0,.none,.none] } }) :=
 .of_wp fun prog w A R s h=>by
  obtain ⟨hp,g,d,tk,os⟩:=s
  obtain ⟨ht,h⟩:=h
  have hsub:=sub_enumerate
  have hT:Heap.IsTuple (Shared.heap ⟨hp,g,d,tk,os⟩) tu vals:=⟨_,ht,rfl,n,rfl⟩
  wp_walk using AutoSeq1.wpAny_loadPart' ht
  refine wpAny_stack_any fun st=>wpAny_pure ?_
  split
  ·rename_i c _ _ _ _ _
   cases (c == Value.type "enumerate")
   ·wp_walk using AutoSeq1.wpAny_loadPart' ht,wpAny_pyIter_tuple hT
    exact ⟨_,rfl,h⟩
   ·wp_walk using AutoSeq1.wpAny_loadPart' ht,wpAny_pyIter_tuple hT
    exact ⟨_,rfl,h⟩
  ·wp_walk using AutoSeq1.wpAny_loadPart' ht,wpAny_pyIter_tuple hT
   exact ⟨_,rfl,h⟩
end L2
namespace L2
open PySem PySem.Spec PyProof.Rows
section
variable {prog:Program} {w:World} {A:Around} {E:Value→Shared→Prop} {s:Shared}
theorem mn {tu:Addr} {vals:Array Value} {Q:Value→Shared→Prop} (hT:s.heap.IsTuple tu vals)
  (h:∀ g,IsEnum g (s.heap.objs.size+1) s.heap.objs.size 0 .none→g.IsTupleIter s.heap.objs.size tu 0→g.objs.size=s.heap.objs.size+2 →
   (∀ b o,s.heap.get? b=some o→g.get? b=some o)→Q (.ref (s.heap.objs.size+1)) { s with heap:=g }) :
  wpAny (model prog w) A (call (.type "enumerate") [.ref tu]) Q E s:=by
 obtain ⟨⟨c,dct,dt,sl⟩,hl,hc,n,hd⟩:=hT
 have hc':c=.type "tuple":=hc
 have hd':dt=.seq vals n:=hd
 subst hc' hd'
 refine callType_new F.called_enumerate (by decide) (F.typeCall_enumerate_1 _) (F.newCall_enumerate_1 _) (fun ob=>F.args_object_init_2 ob _) F.entry_enumerate_new (kY tu vals n dct sl) ⟨hl,?_⟩
 have sz1:(s.heap.push { cls:=.type "tuple_iterator",data:=.fields #[.ref tu,.int 0 0] }).objs.size=s.heap.objs.size+1:=Heap.size_push ..
 show _∧_
 rw [sz1]
 have g2:=Heap.get?_push_size (s.heap.push { cls:=.type "tuple_iterator",data:=.fields #[.ref tu,.int 0 0] }) (o:={ cls:=.type "enumerate",data:=.fields #[.none,.bool false,.ref s.heap.objs.size,rawInt 0,.none,.none] }) rfl
 rw [sz1] at g2
 refine ⟨⟨_,g2,rfl⟩,h _ g2 ⟨_,Heap.get?_push_of_some _ (Heap.get?_push_size _ rfl),rfl,rfl⟩ (by rw [Heap.size_push,sz1]) fun b o x=>Heap.get?_push_of_some _ (Heap.get?_push_of_some _ x)⟩
theorem rO {e it tu:Addr} {i:Int} {n:Nat} {vals:Array Value} {old:Value} {Q:Option Value→Shared→Prop} (hh:A.handled=none) (he:IsEnum s.heap e it i old) (a1:s.heap.IsTupleIter it tu n) (a2:s.heap.IsTuple tu vals) (a3:vals[n]?=none)
  (q:∀ g,Heap.ExtBut it s.heap g→Q none { s with heap:=g }):wpAny (model prog w) A (pyNext (.ref e)) Q E s:=by
 have ty:s.TypeIs (.ref e) "enumerate":=⟨_,he,rfl⟩
 unfold pyNext
 refine wpAny_bind (wpAny_attempt (wpAny_callSpecial?_slot (name:=Str.ofString "__next__") ty F.slot_enumerate_next (wpAny_call_entry F.slot_enumerate_next ty F.entry_enumerate_next ?_ (F.args_enumerate_next_1 _))))
 show wpAny _ _ (field (.ref e) 2 >>= _) _ _ _
 refine wpAny_bind (wpAny_field he rfl (x:=.ref it) rfl ?_)
 refine wpAny_bind (lF hh a1 a2 a3 fun g x k hx=>?_)
 obtain ⟨o,ho,hc⟩:=hx
 exact wpAny_bind (wpAny_isInstance (T:="StopIteration") (b:=true) ⟨o,ho,hc⟩ isSubtype_stop (wpAny_pure (q _ k)))
end
def ItT (K:PySem.W.Frag) (a:Addr):It :=
 ⟨fun i H=>∃ xs x,SqT K H a xs∧xs[i]?=some x,
  fun i H y H'=>∃ p x,y=.ref p∧H p=none∧H'=upd H p (.tup [.int i,x])∧∀ xs,SqT K H a xs→xs[i]?=some x,
  fun i H=>∃ xs,SqT K H a xs∧xs.length≤i⟩
theorem ph {P:Program} {w:World} {K:PySem.W.Frag} {elts:List Expr} {k:Nat} {tp:Pos} (a e it:Addr) (hei:e≠it) (hai:a≠it) :
  Turn P w K (.Tuple elts k tp) (ItT K a) [e,it] e (fun i h=>(∃ old,IsEnum h e it i old)∧h.IsTupleIter it a i) where
 mem:=by simp
 obj:=fun i h st b hb=>by
  obtain ⟨⟨old,he⟩,o,ho,hc,hd⟩:=st
  have hb':b=e∨b=it:=by simpa using hb
  rcases hb' with rfl | rfl
  ·exact ⟨_,he,fun v z=>by
    have z':Data.fields _=Data.cell v:=z
    cases z'⟩
  ·exact ⟨o,ho,fun v z=>by rw [hd] at z; cases z⟩
 keep:=fun i h h' st kp=>⟨let ⟨old,he⟩:=st.1; ⟨old,kp e (by simp) _ he⟩,st.2.at fun o q=>kp it (by simp) o q⟩
 item:=by
  intro X hP hw hK hc i pins s σ H E I hf st hg
  subst hP hw hK
  obtain ⟨xs,x,hq,hx⟩:=hg
  obtain ⟨its,rv,pt,hz⟩:=I.tuple hq
  obtain ⟨u,hu,ru⟩:=rv.get hx
  obtain ⟨⟨old,he⟩,hit⟩:=st
  have hT:s.heap.IsTuple a its.toArray:=pt
  have hea:e≠a:=fun z=>by
   subst z
   obtain ⟨o,e1,e2,_⟩:=id hT
   have he':s.heap.get? e=some _:=he
   rw [e1] at he'
   cases he'
   simp at e2
  have hu':its.toArray[i]?=some u:=by simpa using hu
  have hlt:i < its.toArray.size:=(Array.getElem?_eq_some_iff.mp hu').1
  refine wpAny_pyNext_enum_itemD (rP (A:=X.A.in1) (show X.A.in1.handled=none from I.ok.hd hc) it a hai its.toArray) he ⟨hit,hT⟩ hlt hei (by simp [hei,hea]) fun y h1 tk hy ho1 st1 ht1 hz1 hk1=>?_
  rw [hu'] at hy
  cases hy
  refine ⟨_,rfl,wpAny_letOwnedTupleGo_enum ho1 fun h2 he2 hs2=>?_⟩
  have eL:e < s.heap.objs.size:=Heap.lt_size he
  have ht2:h2.get? s.heap.objs.size=some { cls:=.type "tuple",data:=.seq #[.int i tk,u] }:=(hs2.2 _ (Nat.ne_of_gt eL)).trans ht1
  have hit2:h2.IsTupleIter it a (i+1):=st1.1.at fun o q=>hs2.extBut _ _ hei.symm q
  have I2:Inv X pins σ (upd H s.heap.objs.size (.tup [.int i,x])) { s with heap:=h2,toks:=tk+1 }:=by
   refine I.turnedLaid (fp:=[e,it]) hf (Nat.le_refl _) (fun b ob hb q=>?_) (fun b hb=>?_) ?_
   ·have h1:b≠e:=fun z=>hb (by simp [z])
    have h2':b≠it:=fun z=>hb (by simp [z])
    exact (hs2.2 b h1).trans (hk1 b ob h1 h2' q)
   ·have hb':b=e∨b=it:=by simpa using hb
    rcases hb' with rfl | rfl
    ·exact ⟨_,he2⟩
    ·obtain ⟨o,ho,_⟩:=hit2
     exact ⟨o,ho⟩
   ·refine ⟨(by show 2≤sizeLine; decide),[.int i tk,u],.cons ⟨_,rfl⟩ (.cons ru .nil),?_⟩
    exact ⟨_,ht2,rfl,_,rfl,rfl⟩
  have fr:∀ b∈[e,it],upd H s.heap.objs.size (.tup [.int i,x]) b=none:=fun b hb=>by
   have hlt:b < s.heap.objs.size:=by
    have hb':b=e∨b=it:=by simpa using hb
    rcases hb' with rfl | rfl
    ·exact eL
    ·obtain ⟨o,ho,_⟩:=hit
     exact Heap.lt_size ho
   rw [aF (Nat.ne_of_lt hlt)]
   exact (hf b hb).1
  exact ⟨.ref s.heap.objs.size,_,I2,rfl,⟨_,x,rfl,I.fresh,rfl,fun ys hy=>by rw [I.tuple_inj hy hq]; exact hx⟩,⟨⟨_,he2⟩,hit2⟩,fr⟩
 done:=by
  intro X hP hw hK hc i pins s σ H E I hf st hg
  subst hP hw hK
  obtain ⟨xs,hq,hx⟩:=hg
  obtain ⟨its,rv,pt,hz⟩:=I.tuple hq
  obtain ⟨⟨old,he⟩,hit⟩:=st
  obtain ⟨f0,f1,f2,f3,f4,f5⟩:=hf it (by simp)
  have hl:=rv.length
  have hT:s.heap.IsTuple a its.toArray:=pt
  exact rO (I.ok.hd hc) he hit hT (by simp; omega) fun h' eb=>⟨rfl,I.turned (t':=s.toks) (fun b o hb q=>eb b o hb q) f0 f1 f3 f4 f5⟩
 self:=fun _ _ _ _ _ st h=>let ⟨⟨_,he⟩,_⟩:=st; wpAny_pyIter_enum he h
section
variable {X:Cx} {K:PySem.W.Frag}
end
end L2
namespace L2
open PySem PySem.Spec PyProof.Rows
section
open PySem.SeqAt
end
end L2
namespace L2
open PySem PySem.Spec PyProof.Rows
def Rp (H:Hp) (v:V) (txt:Str):Prop:=(∃ d,DV H v d∧d.showable=true∧d.depth≤60∧d.shown.length≤sizeLine∧txt=d.shown)∨∃ a,v=.ref a∧H a=some (.dK [])∧txt=("{}" : Str)
section
variable {X:Cx}
end
end L2
namespace L2
open PySem PySem.Spec PyProof.Rows
abbrev D:=PyData
abbrev En:=List (Option D)
abbrev AS:=Addr→Prop
def dn:Nat→Nat
 | 0=>0
 | 1=>0
 | 2=>1
 | n+3=>n+3
theorem lb:∀ {a b:Nat},a≤b→dn a≤dn b
 | 0,_,_=>Nat.zero_le _
 | 1,_,_=>Nat.zero_le _
 | 2,2,_=>Nat.le_refl _
 | 2,b+3,_=>by show 1≤b+3; omega
 | a+3,b+3,h=>h
 | a+3,0,h=>by omega
 | a+3,1,h=>by omega
 | a+3,2,h=>by omega
 | 2,0,h=>by omega
 | 2,1,h=>by omega
def kD:Key→D
 | .inl i=>.int i
 | .inr x=>.str x
def FzL (K:PySem.W.Frag) (O:AS) (H:Hp) (a:Addr) (vs:List V):Prop:=(Rd H a (.lst vs)∧¬ O a)∨∀ H',SqL K H' a vs
def FzT (K:PySem.W.Frag) (O:AS) (H:Hp) (a:Addr) (vs:List V):Prop:=H a=some (.tup vs)∧¬ O a
theorem FzL.sq {K:PySem.W.Frag} {O:AS} {H:Hp} {a:Addr} {vs:List V} (h:FzL K O H a vs):SqL K H a vs:=h.elim (fun h=>.inl h.1) fun h=>h H
theorem FzT.sq {K:PySem.W.Frag} {O:AS} {H:Hp} {a:Addr} {vs:List V} (h:FzT K O H a vs):SqT K H a vs:=SqT.of h.1
def GR (H:Hp) (O:AS) (ks:List (D × D)) (a:Addr):Prop:=∃ (kk:List Key) (b:Bool),ks=[(.tuple (kk.map kD),.bool b)]∧H a=some (.dT [(kk,.bl b)])∧¬ O a
mutual
def Ow (K:PySem.W.Frag) (O:AS) (H:Hp):D→Nat→V→AS→Prop
 | .none,_,v,_=>v=.non
 | .bool b,_,v,_=>v=.bl b
 | .int i,_,v,_=>v=.int i
 | .str x,_,v,_=>v=.str x
 | .tuple ts,d,v,F=>∃ a vs,v=.ref a∧((d=0∧FzT K O H a vs∧Ows K O H ts 0 vs F)∨(d≠0∧H a=some (.tup vs)∧F a∧∃ F':AS,(∀ b,F' b→F b∧b≠a)∧Ows K O H ts (dn d) vs F'))
 | .list ts,d,v,F=>∃ a vs,v=.ref a∧((d=0∧FzL K O H a vs∧Ows K O H ts 0 vs F)∨(d≠0∧H a=some (.lst vs)∧F a∧∃ F':AS,(∀ b,F' b→F b∧b≠a)∧Ows K O H ts (dn d) vs F'))
 | .dict ks,d,v,F=>∃ a vs,v=.ref a∧((d=0∧H a=some (.dK vs)∧¬ O a∧Owd K O H ks 0 vs F)∨(d≠0∧H a=some (.dK vs)∧F a∧∃ F':AS,(∀ b,F' b→F b∧b≠a)∧Owd K O H ks (dn d) vs F')∨(d=0∧GR H O ks a))
def Ows (K:PySem.W.Frag) (O:AS) (H:Hp):List D→Nat→List V→AS→Prop
 | [],_,vs,_=>vs=[]
 | t :: ts,d,vs,F=>∃ v r,∃ F1 F2:AS,vs=v :: r∧(∀ b,F1 b→F b)∧(∀ b,F2 b→F b)∧(∀ b,F1 b→¬ F2 b)∧Ow K O H t d v F1∧Ows K O H ts d r F2
def Owd (K:PySem.W.Frag) (O:AS) (H:Hp):List (D × D)→Nat→List (Key × V)→AS→Prop
 | [],_,vs,_=>vs=[]
 | (k,t) :: ts,d,vs,F=>∃ q v r,∃ F1 F2:AS,vs=(q,v) :: r∧k=kD q∧(∀ b,F1 b→F b)∧(∀ b,F2 b→F b)∧(∀ b,F1 b→¬ F2 b)∧Ow K O H t d v F1∧Owd K O H ts d r F2
end
section
variable {K:PySem.W.Frag} {O O':AS} {H H':Hp}
theorem Rd.mv {a:Addr} {u:HO} (hk:∀ o,H a=some o→H' a=some o) (h:Rd H a u):Rd H' a u:=by
 rcases h with h | ⟨o,h⟩
 ·exact .inl (hk _ h)
 ·exact .inr ⟨o,hk _ h⟩
theorem Rd.there {a:Addr} {u:HO} (h:Rd H a u):H a≠none:=by
 rcases h with h | ⟨o,h⟩ <;> rw [h] <;> exact fun z=>nomatch z
structure Mv (O O':AS) (G:AS) (H H':Hp):Prop where
 k:∀ a o,H a=some o→(¬ O a∨G a)→H' a=some o
 o:∀ a,O' a→O a∨H a=none
theorem FzL.mv {G:AS} {a:Addr} {vs:List V} (m:Mv O O' G H H') (h:FzL K O H a vs):FzL K O' H' a vs:=by
 rcases h with ⟨h,n⟩ | h
 ·refine .inl ⟨h.mv fun o e=>m.k _ _ e (.inl n),fun z=>?_⟩
  rcases m.o _ z with z | z
  ·exact n z
  ·exact h.there z
 ·exact .inr h
theorem FzT.mv {G:AS} {a:Addr} {vs:List V} (m:Mv O O' G H H') (h:FzT K O H a vs):FzT K O' H' a vs:=by
 obtain ⟨h,n⟩:=h
 refine ⟨m.k _ _ h (.inl n),fun z=>?_⟩
 rcases m.o _ z with z | z
 ·exact n z
 ·rw [h] at z; cases z
mutual
theorem Ow.mv {G:AS} (m:Mv O O' G H H'):∀ (t:D) {d:Nat} {v:V} {F:AS},(∀ b,F b→G b)→Ow K O H t d v F→Ow K O' H' t d v F
 | .none,_,_,_,_,h=>h
 | .bool _,_,_,_,_,h=>h
 | .int _,_,_,_,_,h=>h
 | .str _,_,_,_,_,h=>h
 | .tuple ts,_,_,_,g,h=>by
  obtain ⟨a,vs,e,⟨h0,h1,h2⟩ | ⟨h0,h1,h2,F',hf,h3⟩⟩:=h
  ·exact ⟨a,vs,e,.inl ⟨h0,h1.mv m,Ows.mv m ts g h2⟩⟩
  ·exact ⟨a,vs,e,.inr ⟨h0,m.k _ _ h1 (.inr (g _ h2)),h2,F',hf,Ows.mv m ts (fun b hb=>g _ (hf b hb).1) h3⟩⟩
 | .list ts,_,_,_,g,h=>by
  obtain ⟨a,vs,e,⟨h0,h1,h2⟩ | ⟨h0,h1,h2,F',hf,h3⟩⟩:=h
  ·exact ⟨a,vs,e,.inl ⟨h0,h1.mv m,Ows.mv m ts g h2⟩⟩
  ·exact ⟨a,vs,e,.inr ⟨h0,m.k _ _ h1 (.inr (g _ h2)),h2,F',hf,Ows.mv m ts (fun b hb=>g _ (hf b hb).1) h3⟩⟩
 | .dict ks,_,_,_,g,h=>by
  obtain ⟨a,vs,e,⟨h0,h1,hn,h2⟩ | ⟨h0,h1,h2,F',hf,h3⟩ | ⟨h0,kk,b,h1,h2,hn⟩⟩:=h
  ·refine ⟨a,vs,e,.inl ⟨h0,m.k _ _ h1 (.inl hn),fun z=>?_,Owd.mv m ks g h2⟩⟩
   rcases m.o _ z with z | z
   ·exact hn z
   ·rw [h1] at z; cases z
  ·exact ⟨a,vs,e,.inr (.inl ⟨h0,m.k _ _ h1 (.inr (g _ h2)),h2,F',hf,Owd.mv m ks (fun b hb=>g _ (hf b hb).1) h3⟩)⟩
  ·refine ⟨a,vs,e,.inr (.inr ⟨h0,kk,b,h1,m.k _ _ h2 (.inl hn),fun z=>?_⟩)⟩
   rcases m.o _ z with z | z
   ·exact hn z
   ·rw [h2] at z; cases z
theorem Ows.mv {G:AS} (m:Mv O O' G H H'):∀ (ts:List D) {d:Nat} {vs:List V} {F:AS},(∀ b,F b→G b)→Ows K O H ts d vs F→Ows K O' H' ts d vs F
 | [],_,_,_,_,h=>h
 | t :: ts,_,_,_,g,h=>by
  obtain ⟨v,r,F1,F2,e,h1,h2,h3,h4,h5⟩:=h
  exact ⟨v,r,F1,F2,e,h1,h2,h3,Ow.mv m t (fun b hb=>g _ (h1 b hb)) h4,Ows.mv m ts (fun b hb=>g _ (h2 b hb)) h5⟩
theorem Owd.mv {G:AS} (m:Mv O O' G H H'):∀ (ts:List (D × D)) {d:Nat} {vs:List (Key × V)} {F:AS},(∀ b,F b→G b)→Owd K O H ts d vs F→Owd K O' H' ts d vs F
 | [],_,_,_,_,h=>h
 | (k,t) :: ts,_,_,_,g,h=>by
  obtain ⟨q,v,r,F1,F2,e,e2,h1,h2,h3,h4,h5⟩:=h
  exact ⟨q,v,r,F1,F2,e,e2,h1,h2,h3,Ow.mv m t (fun b hb=>g _ (h1 b hb)) h4,Owd.mv m ts (fun b hb=>g _ (h2 b hb)) h5⟩
end
theorem FzL.sub {a:Addr} {vs:List V} (ho:∀ a,O' a→O a) (h:FzL K O H a vs):FzL K O' H a vs:=h.imp (fun h=>⟨h.1,fun z=>h.2 (ho _ z)⟩) id
theorem FzT.sub {a:Addr} {vs:List V} (ho:∀ a,O' a→O a) (h:FzT K O H a vs):FzT K O' H a vs:=⟨h.1,fun z=>h.2 (ho _ z)⟩
mutual
theorem Ow.cut:∀ (t:D) {d d':Nat} {v:V} {F:AS},d'≤d→Ow K O H t d v F→∃ F':AS,(∀ b,F' b→F b)∧∀ O':AS,(∀ a,O' a→O a)→(∀ a,F a→O' a→F' a)→Ow K O' H t d' v F'
 | .none,_,_,_,F,_,h=>⟨F,fun _ z=>z,fun _ _ _=>h⟩
 | .bool _,_,_,_,F,_,h=>⟨F,fun _ z=>z,fun _ _ _=>h⟩
 | .int _,_,_,_,F,_,h=>⟨F,fun _ z=>z,fun _ _ _=>h⟩
 | .str _,_,_,_,F,_,h=>⟨F,fun _ z=>z,fun _ _ _=>h⟩
 | .tuple ts,d,d',_,F,hd,h=>by
  obtain ⟨a,vs,e,⟨h0,h1,h2⟩ | ⟨h0,h1,h2,G,hg,h3⟩⟩:=h
  ·subst h0
   have e0:d'=0:=by omega
   subst e0
   obtain ⟨F',s1,s2⟩:=Ows.cut ts (Nat.le_refl _) h2
   exact ⟨F',s1,fun O' ho hx=>⟨a,vs,e,.inl ⟨rfl,h1.sub ho,s2 O' ho hx⟩⟩⟩
  ·by_cases e0:d'=0
   ·subst e0
    obtain ⟨F',s1,s2⟩:=Ows.cut ts (Nat.zero_le _) h3
    refine ⟨F',fun b hb=>(hg _ (s1 b hb)).1,fun O' ho hx=>⟨a,vs,e,.inl ⟨rfl,⟨h1,fun z=>(hg _ (s1 _ (hx _ h2 z))).2 rfl⟩,s2 O' ho fun b hb=>hx b (hg b hb).1⟩⟩⟩
   ·obtain ⟨F',s1,s2⟩:=Ows.cut ts (lb hd) h3
    refine ⟨fun b=>b=a∨F' b,fun b hb=>hb.elim (fun z=>z ▸ h2) fun z=>(hg _ (s1 b z)).1,fun O' ho hx=>⟨a,vs,e,.inr ⟨e0,h1,.inl rfl,F',fun b hb=>⟨.inr hb,(hg _ (s1 b hb)).2⟩,s2 O' ho fun b hb hz=>?_⟩⟩⟩
    exact (hx b (hg b hb).1 hz).elim (fun z=>absurd z (hg b hb).2) id
 | .list ts,d,d',_,F,hd,h=>by
  obtain ⟨a,vs,e,⟨h0,h1,h2⟩ | ⟨h0,h1,h2,G,hg,h3⟩⟩:=h
  ·subst h0
   have e0:d'=0:=by omega
   subst e0
   obtain ⟨F',s1,s2⟩:=Ows.cut ts (Nat.le_refl _) h2
   exact ⟨F',s1,fun O' ho hx=>⟨a,vs,e,.inl ⟨rfl,h1.sub ho,s2 O' ho hx⟩⟩⟩
  ·by_cases e0:d'=0
   ·subst e0
    obtain ⟨F',s1,s2⟩:=Ows.cut ts (Nat.zero_le _) h3
    refine ⟨F',fun b hb=>(hg _ (s1 b hb)).1,fun O' ho hx=>⟨a,vs,e,.inl ⟨rfl,.inl ⟨.inl h1,fun z=>(hg _ (s1 _ (hx _ h2 z))).2 rfl⟩,s2 O' ho fun b hb=>hx b (hg b hb).1⟩⟩⟩
   ·obtain ⟨F',s1,s2⟩:=Ows.cut ts (lb hd) h3
    refine ⟨fun b=>b=a∨F' b,fun b hb=>hb.elim (fun z=>z ▸ h2) fun z=>(hg _ (s1 b z)).1,fun O' ho hx=>⟨a,vs,e,.inr ⟨e0,h1,.inl rfl,F',fun b hb=>⟨.inr hb,(hg _ (s1 b hb)).2⟩,s2 O' ho fun b hb hz=>?_⟩⟩⟩
    exact (hx b (hg b hb).1 hz).elim (fun z=>absurd z (hg b hb).2) id
 | .dict ts,d,d',_,F,hd,h=>by
  obtain ⟨a,vs,e,⟨h0,h1,hn,h2⟩ | ⟨h0,h1,h2,G,hg,h3⟩ | ⟨h0,kk,b,h1,h2,hn⟩⟩:=h
  ·subst h0
   have e0:d'=0:=by omega
   subst e0
   obtain ⟨F',s1,s2⟩:=Owd.cut ts (Nat.le_refl _) h2
   exact ⟨F',s1,fun O' ho hx=>⟨a,vs,e,.inl ⟨rfl,h1,fun z=>hn (ho _ z),s2 O' ho hx⟩⟩⟩
  ·by_cases e0:d'=0
   ·subst e0
    obtain ⟨F',s1,s2⟩:=Owd.cut ts (Nat.zero_le _) h3
    refine ⟨F',fun b hb=>(hg _ (s1 b hb)).1,fun O' ho hx=>⟨a,vs,e,.inl ⟨rfl,h1,fun z=>(hg _ (s1 _ (hx _ h2 z))).2 rfl,s2 O' ho fun b hb=>hx b (hg b hb).1⟩⟩⟩
   ·obtain ⟨F',s1,s2⟩:=Owd.cut ts (lb hd) h3
    refine ⟨fun b=>b=a∨F' b,fun b hb=>hb.elim (fun z=>z ▸ h2) fun z=>(hg _ (s1 b z)).1,fun O' ho hx=>⟨a,vs,e,.inr (.inl ⟨e0,h1,.inl rfl,F',fun b hb=>⟨.inr hb,(hg _ (s1 b hb)).2⟩,s2 O' ho fun b hb hz=>?_⟩)⟩⟩
    exact (hx b (hg b hb).1 hz).elim (fun z=>absurd z (hg b hb).2) id
  ·subst h0
   have e0:d'=0:=by omega
   subst e0
   exact ⟨F,fun _ z=>z,fun O' ho hx=>⟨a,vs,e,.inr (.inr ⟨rfl,kk,b,h1,h2,fun z=>hn (ho _ z)⟩)⟩⟩
theorem Ows.cut:∀ (ts:List D) {d d':Nat} {vs:List V} {F:AS},d'≤d→Ows K O H ts d vs F→∃ F':AS,(∀ b,F' b→F b)∧∀ O':AS,(∀ a,O' a→O a)→(∀ a,F a→O' a→F' a)→Ows K O' H ts d' vs F'
 | [],_,_,_,F,_,h=>⟨F,fun _ z=>z,fun _ _ _=>h⟩
 | t :: ts,_,_,_,F,hd,h=>by
  obtain ⟨v,r,F1,F2,e,h1,h2,h3,h4,h5⟩:=h
  obtain ⟨G1,a1,a2⟩:=Ow.cut t hd h4
  obtain ⟨G2,b1,b2⟩:=Ows.cut ts hd h5
  refine ⟨fun b=>G1 b∨G2 b,fun b hb=>hb.elim (fun z=>h1 _ (a1 _ z)) fun z=>h2 _ (b1 _ z),fun O' ho hx=>⟨v,r,G1,G2,e,fun b=>.inl,fun b=>.inr,fun b z1 z2=>h3 b (a1 b z1) (b1 b z2),a2 O' ho fun b hb hz=>?_,b2 O' ho fun b hb hz=>?_⟩⟩
  ·exact (hx b (h1 b hb) hz).elim id fun z=>absurd (b1 b z) (h3 b hb)
  ·exact (hx b (h2 b hb) hz).elim (fun z=>absurd hb (h3 b (a1 b z))) id
theorem Owd.cut:∀ (ts:List (D × D)) {d d':Nat} {vs:List (Key × V)} {F:AS},d'≤d→Owd K O H ts d vs F→∃ F':AS,(∀ b,F' b→F b)∧∀ O':AS,(∀ a,O' a→O a)→(∀ a,F a→O' a→F' a)→Owd K O' H ts d' vs F'
 | [],_,_,_,F,_,h=>⟨F,fun _ z=>z,fun _ _ _=>h⟩
 | (k,t) :: ts,_,_,_,F,hd,h=>by
  obtain ⟨q,v,r,F1,F2,e,e2,h1,h2,h3,h4,h5⟩:=h
  obtain ⟨G1,a1,a2⟩:=Ow.cut t hd h4
  obtain ⟨G2,b1,b2⟩:=Owd.cut ts hd h5
  refine ⟨fun b=>G1 b∨G2 b,fun b hb=>hb.elim (fun z=>h1 _ (a1 _ z)) fun z=>h2 _ (b1 _ z),fun O' ho hx=>⟨q,v,r,G1,G2,e,e2,fun b=>.inl,fun b=>.inr,fun b z1 z2=>h3 b (a1 b z1) (b1 b z2),a2 O' ho fun b hb hz=>?_,b2 O' ho fun b hb hz=>?_⟩⟩
  ·exact (hx b (h1 b hb) hz).elim id fun z=>absurd (b1 b z) (h3 b hb)
  ·exact (hx b (h2 b hb) hz).elim (fun z=>absurd hb (h3 b (a1 b z))) id
end
mutual
theorem Ow.grow (ho:∀ a,O' a→O a):∀ (t:D) {d:Nat} {v:V} {F F':AS},(∀ b,F b→F' b)→Ow K O H t d v F→Ow K O' H t d v F'
 | .none,_,_,_,_,_,h=>h
 | .bool _,_,_,_,_,_,h=>h
 | .int _,_,_,_,_,_,h=>h
 | .str _,_,_,_,_,_,h=>h
 | .tuple ts,_,_,_,_,hf,h=>by
  obtain ⟨a,vs,e,⟨h0,h1,h2⟩ | ⟨h0,h1,h2,G,hg,h3⟩⟩:=h
  ·exact ⟨a,vs,e,.inl ⟨h0,h1.sub ho,Ows.grow ho ts hf h2⟩⟩
  ·exact ⟨a,vs,e,.inr ⟨h0,h1,hf _ h2,G,fun b hb=>⟨hf _ (hg b hb).1,(hg b hb).2⟩,Ows.grow ho ts (fun _ z=>z) h3⟩⟩
 | .list ts,_,_,_,_,hf,h=>by
  obtain ⟨a,vs,e,⟨h0,h1,h2⟩ | ⟨h0,h1,h2,G,hg,h3⟩⟩:=h
  ·exact ⟨a,vs,e,.inl ⟨h0,h1.sub ho,Ows.grow ho ts hf h2⟩⟩
  ·exact ⟨a,vs,e,.inr ⟨h0,h1,hf _ h2,G,fun b hb=>⟨hf _ (hg b hb).1,(hg b hb).2⟩,Ows.grow ho ts (fun _ z=>z) h3⟩⟩
 | .dict ts,_,_,_,_,hf,h=>by
  obtain ⟨a,vs,e,⟨h0,h1,hn,h2⟩ | ⟨h0,h1,h2,G,hg,h3⟩ | ⟨h0,kk,b,h1,h2,hn⟩⟩:=h
  ·exact ⟨a,vs,e,.inl ⟨h0,h1,fun z=>hn (ho _ z),Owd.grow ho ts hf h2⟩⟩
  ·exact ⟨a,vs,e,.inr (.inl ⟨h0,h1,hf _ h2,G,fun b hb=>⟨hf _ (hg b hb).1,(hg b hb).2⟩,Owd.grow ho ts (fun _ z=>z) h3⟩)⟩
  ·exact ⟨a,vs,e,.inr (.inr ⟨h0,kk,b,h1,h2,fun z=>hn (ho _ z)⟩)⟩
theorem Ows.grow (ho:∀ a,O' a→O a):∀ (ts:List D) {d:Nat} {vs:List V} {F F':AS},(∀ b,F b→F' b)→Ows K O H ts d vs F→Ows K O' H ts d vs F'
 | [],_,_,_,_,_,h=>h
 | t :: ts,_,_,_,_,hf,h=>by
  obtain ⟨v,r,F1,F2,e,h1,h2,h3,h4,h5⟩:=h
  exact ⟨v,r,F1,F2,e,fun b z=>hf _ (h1 b z),fun b z=>hf _ (h2 b z),h3,Ow.grow ho t (fun _ z=>z) h4,Ows.grow ho ts (fun _ z=>z) h5⟩
theorem Owd.grow (ho:∀ a,O' a→O a):∀ (ts:List (D × D)) {d:Nat} {vs:List (Key × V)} {F F':AS},(∀ b,F b→F' b)→Owd K O H ts d vs F→Owd K O' H ts d vs F'
 | [],_,_,_,_,_,h=>h
 | (k,t) :: ts,_,_,_,_,hf,h=>by
  obtain ⟨q,v,r,F1,F2,e,e2,h1,h2,h3,h4,h5⟩:=h
  exact ⟨q,v,r,F1,F2,e,e2,fun b z=>hf _ (h1 b z),fun b z=>hf _ (h2 b z),h3,Ow.grow ho t (fun _ z=>z) h4,Owd.grow ho ts (fun _ z=>z) h5⟩
end
mutual
theorem Ow.full:∀ (t:D) {d:Nat} {v:V} {F:AS},Ow K O H t (d+3) v F→Ow K O' H t (d+3) v F
 | .none,_,_,_,h=>h
 | .bool _,_,_,_,h=>h
 | .int _,_,_,_,h=>h
 | .str _,_,_,_,h=>h
 | .tuple ts,_,_,_,h=>by
  obtain ⟨a,vs,e,⟨h0,h1,h2⟩ | ⟨h0,h1,h2,G,hg,h3⟩⟩:=h
  ·cases h0
  ·exact ⟨a,vs,e,.inr ⟨h0,h1,h2,G,hg,Ows.full ts h3⟩⟩
 | .list ts,_,_,_,h=>by
  obtain ⟨a,vs,e,⟨h0,h1,h2⟩ | ⟨h0,h1,h2,G,hg,h3⟩⟩:=h
  ·cases h0
  ·exact ⟨a,vs,e,.inr ⟨h0,h1,h2,G,hg,Ows.full ts h3⟩⟩
 | .dict ts,_,_,_,h=>by
  obtain ⟨a,vs,e,⟨h0,h1,hn,h2⟩ | ⟨h0,h1,h2,G,hg,h3⟩ | ⟨h0,_⟩⟩:=h
  ·cases h0
  ·exact ⟨a,vs,e,.inr (.inl ⟨h0,h1,h2,G,hg,Owd.full ts h3⟩)⟩
  ·cases h0
theorem Ows.full:∀ (ts:List D) {d:Nat} {vs:List V} {F:AS},Ows K O H ts (d+3) vs F→Ows K O' H ts (d+3) vs F
 | [],_,_,_,h=>h
 | t :: ts,_,_,_,h=>by
  obtain ⟨v,r,F1,F2,e,h1,h2,h3,h4,h5⟩:=h
  exact ⟨v,r,F1,F2,e,h1,h2,h3,Ow.full t h4,Ows.full ts h5⟩
theorem Owd.full:∀ (ts:List (D × D)) {d:Nat} {vs:List (Key × V)} {F:AS},Owd K O H ts (d+3) vs F→Owd K O' H ts (d+3) vs F
 | [],_,_,_,h=>h
 | (k,t) :: ts,_,_,_,h=>by
  obtain ⟨q,v,r,F1,F2,e,e2,h1,h2,h3,h4,h5⟩:=h
  exact ⟨q,v,r,F1,F2,e,e2,h1,h2,h3,Ow.full t h4,Owd.full ts h5⟩
end
mutual
theorem Ow.any0:∀ (t:D) {v:V} {F F':AS},Ow K O H t 0 v F→Ow K O H t 0 v F'
 | .none,_,_,_,h=>h
 | .bool _,_,_,_,h=>h
 | .int _,_,_,_,h=>h
 | .str _,_,_,_,h=>h
 | .tuple ts,_,_,_,h=>by
  obtain ⟨a,vs,e,⟨h0,h1,h2⟩ | ⟨h0,_⟩⟩:=h
  ·exact ⟨a,vs,e,.inl ⟨rfl,h1,Ows.any0 ts h2⟩⟩
  ·exact absurd rfl h0
 | .list ts,_,_,_,h=>by
  obtain ⟨a,vs,e,⟨h0,h1,h2⟩ | ⟨h0,_⟩⟩:=h
  ·exact ⟨a,vs,e,.inl ⟨rfl,h1,Ows.any0 ts h2⟩⟩
  ·exact absurd rfl h0
 | .dict ts,_,_,_,h=>by
  obtain ⟨a,vs,e,⟨h0,h1,hn,h2⟩ | ⟨h0,_⟩ | ⟨_,kk,b,h1,h2,hn⟩⟩:=h
  ·exact ⟨a,vs,e,.inl ⟨rfl,h1,hn,Owd.any0 ts h2⟩⟩
  ·exact absurd rfl h0
  ·exact ⟨a,vs,e,.inr (.inr ⟨rfl,kk,b,h1,h2,hn⟩)⟩
theorem Ows.any0:∀ (ts:List D) {vs:List V} {F F':AS},Ows K O H ts 0 vs F→Ows K O H ts 0 vs F'
 | [],_,_,_,h=>h
 | t :: ts,_,_,_,h=>by
  obtain ⟨v,r,F1,F2,e,_,_,_,h4,h5⟩:=h
  exact ⟨v,r,fun _=>False,fun _=>False,e,fun _ z=>z.elim,fun _ z=>z.elim,fun _ z=>z.elim,Ow.any0 t h4,Ows.any0 ts h5⟩
theorem Owd.any0:∀ (ts:List (D × D)) {vs:List (Key × V)} {F F':AS},Owd K O H ts 0 vs F→Owd K O H ts 0 vs F'
 | [],_,_,_,h=>h
 | (k,t) :: ts,_,_,_,h=>by
  obtain ⟨q,v,r,F1,F2,e,e2,_,_,_,h4,h5⟩:=h
  exact ⟨q,v,r,fun _=>False,fun _=>False,e,e2,fun _ z=>z.elim,fun _ z=>z.elim,fun _ z=>z.elim,Ow.any0 t h4,Owd.any0 ts h5⟩
end
theorem Ow.fz {t:D} {d:Nat} {v:V} {F F2:AS} (ho:∀ a,O' a→O a) (hn:∀ a,F a→¬ O' a) (h:Ow K O H t d v F):Ow K O' H t 0 v F2:=by
 obtain ⟨F',s1,s2⟩:=Ow.cut t (Nat.zero_le d) h
 exact Ow.any0 t (s2 O' ho fun a z1 z2=>absurd z2 (hn a z1))
end
def U (A B:AS):AS:=fun a=>A a∨B a
def Own (R:Nat→AS) (Ox:AS):AS:=fun a=>(∃ i,R i a)∨Ox a
theorem eh {A B:AS} (h:∀ a,A a↔B a):A=B:=funext fun a=>propext (h a)
structure EnvOk (K:PySem.W.Frag) (ds:List Nat) (Ox:AS) (H:Hp) (σ:St) (en:En) (R:Nat→AS):Prop where
 at_:∀ (i:Nat) (t:D),en[i]?=some (some t)→∃ v d,σ[i]?=some (some v)∧ds[i]?=some d∧Ow K (Own R Ox) H t d v (R i)
 dj:∀ i j a,R i a→R j a→i=j
 dx:∀ i a,R i a→¬ Ox a
 dom:∀ a,Own R Ox a→∃ o,H a=some o
 l1:en.length=σ.length
 l2:ds.length=σ.length
structure Post (K:PySem.W.Frag) (p:Bool) (ds':List Nat) (Ox:AS) (σ:St) (H:Hp) (en:En) (R:Nat→AS) (en':En) (H':Hp) (R':Nat→AS) (F:AS):Prop where
 env:EnvOk K ds' (U F Ox) H' σ en' R'
 fx:∀ a,F a→¬ Ox a
 keep:∀ a o,H a=some o→(∀ i,¬ R i a)→H' a=some o
 own:∀ a,(F a∨∃ i,R' i a)→(∃ i,R i a)∨H a=none
 dom:∀ a o,H a=some o→∃ o',H' a=some o'
 pure:p=true→en'=en∧R'=R∧∀ a o,H a=some o→H' a=some o
section
variable {K:PySem.W.Frag} {p p1 p2:Bool} {ds ds1 ds2 ds':List Nat} {Ox Ox':AS} {H H':Hp} {σ:St} {en en' en1 en2:En} {R R':Nat→AS} {d d1 d2:Nat} {t1 t2:D}
theorem EnvOk.grow (e:EnvOk K ds Ox H σ en R) (hk:∀ a o,H a=some o→H' a=some o) {F:AS} (hf:∀ a,F a→H a=none∧∃ o,H' a=some o):EnvOk K ds (U F Ox) H' σ en R:=by
 have fo:∀ a,F a→¬ Own R Ox a:=fun a z z2=>by
  obtain ⟨o,q⟩:=e.dom a z2
  rw [(hf a z).1] at q
  cases q
 refine ⟨fun i t h=>?_,e.dj,fun i a h z=>?_,fun a h=>?_,e.l1,e.l2⟩
 ·obtain ⟨v,d,h1,h2,h3⟩:=e.at_ i t h
  refine ⟨v,d,h1,h2,Ow.mv (G:=R i) ⟨fun a o q _=>hk a o q,fun a z=>?_⟩ t (fun _ z=>z) h3⟩
  rcases z with z | z | z
  ·exact .inl (.inl z)
  ·exact .inr (hf a z).1
  ·exact .inl (.inr z)
 ·rcases z with z | z
  ·exact fo a z (.inl ⟨i,h⟩)
  ·exact e.dx i a h z
 ·rcases h with h | h | h
  ·obtain ⟨o,q⟩:=e.dom a (.inl h)
   exact ⟨o,hk a o q⟩
  ·exact (hf a h).2
  ·obtain ⟨o,q⟩:=e.dom a (.inr h)
   exact ⟨o,hk a o q⟩
theorem EnvOk.fewer (e:EnvOk K ds Ox H σ en R) (h:∀ a,Ox' a→Ox a):EnvOk K ds Ox' H σ en R:=by
 refine ⟨fun i t q=>?_,e.dj,fun i a z1 z2=>e.dx i a z1 (h a z2),fun a z=>e.dom a (z.imp id (h a)),e.l1,e.l2⟩
 obtain ⟨v,d,h1,h2,h3⟩:=e.at_ i t q
 exact ⟨v,d,h1,h2,Ow.grow (fun a z=>z.imp id (h a)) t (fun _ z=>z) h3⟩
def tF (K:PySem.W.Frag) (p:Bool) (ds ds':List Nat) (d:Nat) (f:En→Option (D × En)):TE:=fun σ H Q =>
 ∃ Ox en R t en',EnvOk K ds Ox H σ en R∧f en=some (t,en')∧∀ v H' R' F,Post K p ds' Ox σ H en R en' H' R' F→Ow K (Own R' (U F Ox)) H' t d v F→Q v H'
theorem Post.refl (e:EnvOk K ds Ox H σ en R):Post K p ds Ox σ H en R en H R (fun _=>False):=by
 have eq:U (fun _=>False) Ox=Ox:=eh fun a=>⟨fun z=>z.elim (fun z=>z.elim) id,.inr⟩
 exact ⟨eq.symm ▸ e,fun _ z=>z.elim,fun _ _ q _=>q,fun a z=>z.elim (fun z=>z.elim) .inl,fun a o q=>⟨o,q⟩,fun _=>⟨rfl,rfl,fun _ _ q=>q⟩⟩
theorem Post.new (e:EnvOk K ds Ox H σ en R) (hk:∀ a o,H a=some o→H' a=some o) {F:AS} (hf:∀ a,F a→H a=none∧∃ o,H' a=some o):Post K p ds Ox σ H en R en H' R F:=by
 refine ⟨e.grow hk hf,fun a z z2=>?_,fun a o q _=>hk a o q,fun a z=>z.elim (fun z=>.inr (hf a z).1) .inl,fun a o q=>⟨o,hk a o q⟩,fun _=>⟨rfl,rfl,hk⟩⟩
 obtain ⟨o,q⟩:=e.dom a (.inr z2)
 rw [(hf a z).1] at q
 cases q
theorem Post.trans {H1 H2:Hp} {R1 R2:Nat→AS} {F1 F2:AS} (P1:Post K p1 ds1 Ox σ H en R en1 H1 R1 F1) (P2:Post K p2 ds2 (U F1 Ox) σ H1 en1 R1 en2 H2 R2 F2) :
  Post K (p1 && p2) ds2 Ox σ H en R en2 H2 R2 (U F1 F2):=by
 have eq:U F2 (U F1 Ox)=U (U F1 F2) Ox:=eh fun a=>by unfold U; exact ⟨fun z=>by rcases z with z | z | z; exact .inl (.inr z); exact .inl (.inl z); exact .inr z,fun z=>by rcases z with (z | z) | z; exact .inr (.inl z); exact .inl z; exact .inr (.inr z)⟩
 have n1:∀ a,H1 a=none→H a=none:=fun a z=>by
  cases q:H a with
  | none=>rfl
  | some o =>
   obtain ⟨o',q'⟩:=P1.dom a o q
   rw [z] at q'
   cases q'
 refine ⟨eq ▸ P2.env,fun a z z2=>?_,fun a o q n=>?_,fun a z=>?_,fun a o q=>?_,fun hp=>?_⟩
 ·rcases z with z | z
  ·exact P1.fx a z z2
  ·exact P2.fx a z (.inr z2)
 ·refine P2.keep a o (P1.keep a o q n) fun i z=>?_
  rcases P1.own a (.inr ⟨i,z⟩) with ⟨j,z⟩ | z
  ·exact n j z
  ·rw [q] at z; cases z
 ·rcases z with (z | z) | z
  ·exact P1.own a (.inl z)
  ·rcases P2.own a (.inl z) with z | z
   ·exact P1.own a (.inr z)
   ·exact .inr (n1 a z)
  ·rcases P2.own a (.inr z) with z | z
   ·exact P1.own a (.inr z)
   ·exact .inr (n1 a z)
 ·obtain ⟨o',q'⟩:=P1.dom a o q
  exact P2.dom a o' q'
 ·have h1:p1=true:=by cases p1 <;> simp_all
  have h2:p2=true:=by cases p2 <;> simp_all
  obtain ⟨a1,a2,a3⟩:=P1.pure h1
  obtain ⟨b1,b2,b3⟩:=P2.pure h2
  exact ⟨b1.trans a1,b2.trans a2,fun a o q=>b3 a o (a3 a o q)⟩
theorem Ow.over {H1 H2:Hp} {R1 R2:Nat→AS} {F1 F2:AS} {t:D} {v:V} (P1:EnvOk K ds1 (U F1 Ox) H1 σ en1 R1) (P2:Post K p2 ds2 (U F1 Ox) σ H1 en1 R1 en2 H2 R2 F2) (h:Ow K (Own R1 (U F1 Ox)) H1 t d v F1) :
  Ow K (Own R2 (U (U F1 F2) Ox)) H2 t d v F1:=by
 refine Ow.mv (G:=F1) ⟨fun a o q z=>P2.keep a o q fun i zi=>?_,fun a z=>?_⟩ t (fun _ z=>z) h
 ·rcases z with z | z
  ·exact z (.inl ⟨i,zi⟩)
  ·exact P1.dx i a zi (.inl z)
 ·rcases z with z | (z | z) | z
  ·rcases P2.own a (.inr z) with z | z
   ·exact .inl (.inl z)
   ·exact .inr z
  ·exact .inl (.inr (.inl z))
  ·rcases P2.own a (.inl z) with z | z
   ·exact .inl (.inl z)
   ·exact .inr z
  ·exact .inl (.inr (.inr z))
theorem kA {F1 F2:AS}:U F2 (U F1 Ox)=U (U F1 F2) Ox:=eh fun a=>by unfold U; exact ⟨fun z=>by rcases z with z | z | z; exact .inl (.inr z); exact .inl (.inl z); exact .inr z,fun z=>by rcases z with (z | z) | z; exact .inr (.inl z); exact .inl z; exact .inr (.inr z)⟩
theorem two {f g:En→Option (D × En)} {Q:V→V→Hp→Prop} (e:EnvOk K ds Ox H σ en R) (h1:f en=some (t1,en1)) (h2:g en1=some (t2,en2))
  (k:∀ x y H2 R2 F1 F2,Post K (p1 && p2) ds2 Ox σ H en R en2 H2 R2 (U F1 F2)→Ow K (Own R2 (U (U F1 F2) Ox)) H2 t1 d1 x F1→Ow K (Own R2 (U (U F1 F2) Ox)) H2 t2 d2 y F2→Q x y H2) :
  tF K p1 ds ds1 d1 f σ H fun x H1=>tF K p2 ds1 ds2 d2 g σ H1 fun y H2=>Q x y H2:=by
 refine ⟨Ox,en,R,t1,en1,e,h1,fun x H1 R1 F1 P1 o1=>?_⟩
 refine ⟨U F1 Ox,en1,R1,t2,en2,P1.env,h2,fun y H2 R2 F2 P2 o2=>?_⟩
 exact k x y H2 R2 F1 F2 (P1.trans P2) (Ow.over P1.env P2 o1) (kA ▸ o2)
end
end L2
namespace L2
open PySem PySem.Spec PyProof.Rows
abbrev ME:=En→Option (D × En)
abbrev MT:=En→Option (Bool × En)
abbrev MA:=En→Option (List (D ⊕ Nat) × En)
def ac (i:Nat):ME:=fun en=>(en[i]?).join.map fun t=>(t,en)
def eMv (i:Nat):ME:=fun en=>(en[i]?).join.map fun t=>(t,en.set i none)
def eC (t:D):ME:=fun en=>some (t,en)
def e1 (g:D→Option D) (f:ME):ME:=fun en=>(f en).bind fun r=>(g r.1).map fun t=>(t,r.2)
def e2 (g:D→D→Option D) (f1 f2:ME):ME:=fun en=>(f1 en).bind fun r=>(f2 r.2).bind fun q=>(g r.1 q.1).map fun t=>(t,q.2)
def jN (f g:ME):ME:=fun en=>(f en).bind fun r=>match r.1 with
 | .bool true=>g r.2
 | .bool false=>some (.bool false,r.2)
 | _=>none
def eOr (f g:ME):ME:=fun en=>(f en).bind fun r=>match r.1 with
 | .bool true=>some (.bool true,r.2)
 | .bool false=>g r.2
 | _=>none
def Hq (f:ME):ME:=fun en=>(f en).bind fun r=>match r.1 with
 | .bool b=>some (.bool (!b),r.2)
 | _=>none
def eIf (c:MT) (f g:ME):ME:=fun en=>(c en).bind fun r=>if r.1 then f r.2 else g r.2
def tV (f:ME):MT:=fun en=>(f en).bind fun r=>match r.1 with
 | .bool b=>some (b,r.2)
 | _=>none
def cE (f g:MT):MT:=fun en=>(f en).bind fun r=>if r.1 then g r.2 else some (false,r.2)
def bOr (f g:MT):MT:=fun en=>(f en).bind fun r=>if r.1 then some (true,r.2) else g r.2
def cW (f:MT):MT:=fun en=>(f en).map fun r=>(!r.1,r.2)
def ah:MA:=fun en=>some ([],en)
def ae (f:ME) (r:MA):MA:=fun en=>(f en).bind fun x=>(r x.2).map fun y=>(.inl x.1 :: y.1,y.2)
def aL (i:Nat) (r:MA):MA:=fun en=>(en[i]?).join.bind fun _=>(r en).map fun y=>(.inr i :: y.1,y.2)
def vals:List (D ⊕ Nat)→Option (List D)
 | []=>some []
 | .inl t :: r=>(vals r).map (t :: ·)
 | .inr _ :: _=>none
def eN (g:List D→Option D) (fa:MA):ME:=fun en=>(fa en).bind fun r=>(vals r.1).bind fun ts=>(g ts).map fun t=>(t,r.2)
def NewTo (H H':Hp) (F:AS):Prop:=(∀ a o,H a=some o→H' a=some o)∧∀ a,F a→H a=none∧∃ o,H' a=some o
def NoA:AS:=fun _=>False
theorem fu {A:AS}:U NoA A=A:=eh fun a=>⟨fun z=>z.elim (fun z=>z.elim) id,.inr⟩
def rF1 (K:PySem.W.Frag) (g:D→Option D) (d:Nat):V→Hp→VK→Prop:=fun x H Q=>∃ (O:AS) (a t:D),Ow K O H a 0 x NoA∧(∀ a,O a→∃ o,H a=some o)∧g a=some t∧∀ v H' F,NewTo H H' F→Ow K (U F O) H' t d v F→Q v H'
def rF2 (K:PySem.W.Frag) (g:D→D→Option D) (d:Nat):R2:=fun x y H Q=>∃ (O:AS) (a b t:D),Ow K O H a 0 x NoA∧Ow K O H b 0 y NoA∧(∀ a,O a→∃ o,H a=some o)∧g a b=some t∧∀ v H' F,NewTo H H' F→Ow K (U F O) H' t d v F→Q v H'
def rFn (K:PySem.W.Frag) (g:List D→Option D) (d:Nat):List V→Hp→VK→Prop:=fun xs H Q=>∃ (O:AS) (ts:List D) (t:D),Ows K O H ts 0 xs NoA∧(∀ a,O a→∃ o,H a=some o)∧g ts=some t∧∀ v H' F,NewTo H H' F→Ow K (U F O) H' t d v F→Q v H'
section
variable {K:PySem.W.Frag} {p p1 p2:Bool} {ds ds0 ds1 ds2 ds':List Nat} {Ox Ox':AS} {H H':Hp} {σ:St} {en en' en1 en2:En} {R R':Nat→AS} {d d' d1 d2:Nat} {t t1 t2:D} {Q:VK} {f f1 f2 fa fb:ME}
theorem mC {F:AS}:U F (Own R Ox)=Own R (U F Ox):=eh fun a=>by
 unfold U Own
 exact ⟨fun z=>by rcases z with z | z | z; exact .inr (.inl z); exact .inl z; exact .inr (.inr z),fun z=>by rcases z with z | z | z; exact .inr (.inl z); exact .inl z; exact .inr (.inr z)⟩
theorem Post.fin {H1:Hp} {F0 F:AS} (P:Post K p ds' Ox σ H en R en' H1 R' F0) (n:NewTo H1 H' F):Post K p ds' Ox σ H en R en' H' R' F:=by
 have e:=P.env.fewer (Ox':=Ox) fun a z=>.inr z
 have n1:∀ a,H1 a=none→H a=none:=fun a z=>by
  cases q:H a with
  | none=>rfl
  | some o =>
   obtain ⟨o',q'⟩:=P.dom a o q
   rw [z] at q'
   cases q'
 refine ⟨e.grow n.1 n.2,fun a z z2=>?_,fun a o q nn=>n.1 a o (P.keep a o q nn),fun a z=>?_,fun a o q=>?_,fun hp=>?_⟩
 ·obtain ⟨o,q⟩:=e.dom a (.inr z2)
  rw [(n.2 a z).1] at q
  cases q
 ·rcases z with z | z
  ·exact .inr (n1 a (n.2 a z).1)
  ·exact P.own a (.inr z)
 ·obtain ⟨o',q'⟩:=P.dom a o q
  exact ⟨o',n.1 a o' q'⟩
 ·obtain ⟨a1,a2,a3⟩:=P.pure hp
  exact ⟨a1,a2,fun a o q=>n.1 a o (a3 a o q)⟩
theorem Post.less {F F':AS} (P:Post K p ds' Ox σ H en R en' H' R' F) (h:∀ a,F' a→F a):Post K p ds' Ox σ H en R en' H' R' F' :=
 ⟨P.env.fewer fun a z=>z.imp (h a) id,fun a z=>P.fx a (h a z),P.keep,fun a z=>P.own a (z.imp (h a) id),P.dom,P.pure⟩
theorem Ow.letgo {F F0:AS} {v:V} (P:Post K p ds' Ox σ H en R en' H' R' F0) (hf:∀ a,F a→F0 a) (h:Ow K (Own R' (U F0 Ox)) H' t d v F):Ow K (Own R' Ox) H' t 0 v NoA:=by
 refine Ow.fz (fun a z=>z.imp id .inr) (fun a z z2=>?_) h
 rcases z2 with ⟨i,z2⟩ | z2
 ·exact P.env.dx i a z2 (.inl (hf a z))
 ·exact P.fx a (hf a z) z2
theorem Post.doms {F0:AS} (P:Post K p ds' Ox σ H en R en' H' R' F0):∀ a,Own R' Ox a→∃ o,H' a=some o:=fun a z=>P.env.dom a (z.imp id .inr)
theorem Gi (hd:ds[i]?=some 0) (h:tF K true ds ds 0 (ac i) σ H Q):ff i σ H Q:=by
 obtain ⟨Ox,en,R,t,en',e,hf,k⟩:=h
 unfold ac at hf
 cases q:en[i]? with
 | none=>rw [q] at hf; cases hf
 | some o =>
  rw [q] at hf
  cases o with
  | none=>cases hf
  | some t' =>
   cases hf
   obtain ⟨v,d,h1,h2,h3⟩:=e.at_ i t q
   rw [hd] at h2
   cases h2
   exact ⟨v,h1,k v H R NoA (Post.refl e) (by rw [fu]; exact Ow.any0 t h3)⟩
theorem f_c {v:V} (hv:∀ K O H F,Ow K O H t 3 v F) (h:tF K true ds ds 3 (eC t) σ H Q):tC v σ H Q:=by
 obtain ⟨Ox,en,R,t',en',e,hf,k⟩:=h
 cases hf
 exact k v H R NoA (Post.refl e) (hv _ _ _ _)
theorem Gk (hd:d'≤d) (h:tF K p ds ds' d' f σ H Q):tF K p ds ds' d f σ H Q:=by
 obtain ⟨Ox,en,R,t,en',e,hf,k⟩:=h
 refine ⟨Ox,en,R,t,en',e,hf,fun v H' R' F P o=>?_⟩
 obtain ⟨F',s1,s2⟩:=Ow.cut t hd o
 refine k v H' R' F' (P.less s1) (s2 _ (fun a z=>z.imp id fun z=>z.imp (s1 a) id) fun a z z2=>?_)
 rcases z2 with ⟨i,z2⟩ | z2 | z2
 ·exact absurd (.inl z) (P.env.dx i a z2)
 ·exact z2
 ·exact absurd z2 (P.fx a z)
theorem gU (hp:p'=true→p=true) (h:tF K p' ds ds' d f σ H Q):tF K p ds ds' d f σ H Q:=by
 obtain ⟨Ox,en,R,t,en',e,hf,k⟩:=h
 exact ⟨Ox,en,R,t,en',e,hf,fun v H' R' F P o=>k v H' R' F ⟨P.env,P.fx,P.keep,P.own,P.dom,fun z=>P.pure (hp z)⟩ o⟩
theorem EnvOk.cut (e:EnvOk K ds Ox H σ en R) (hl:ds0.length=ds.length) (hd:∀ (i:Nat) a b,ds0[i]?=some a→ds[i]?=some b→a≤b):∃ R',(∀ i a,R' i a→R i a)∧EnvOk K ds0 Ox H σ en R':=by
 have ch:∀ i,∃ F':AS,(∀ b,F' b→R i b)∧∀ t v d0,en[i]?=some (some t)→σ[i]?=some (some v)→ds0[i]?=some d0→∀ O':AS,(∀ a,O' a→Own R Ox a)→(∀ a,R i a→O' a→F' a)→Ow K O' H t d0 v F':=fun i=>by
  by_cases h:∃ t,en[i]?=some (some t)
  ·obtain ⟨t,ht⟩:=h
   obtain ⟨v,d,h1,h2,h3⟩:=e.at_ i t ht
   cases q:ds0[i]? with
   | none=>exact ⟨NoA,fun _ z=>z.elim,fun _ _ _ _ _ z=>nomatch z⟩
   | some d0 =>
    obtain ⟨F',s1,s2⟩:=Ow.cut t (hd i d0 d q h2) h3
    refine ⟨F',s1,fun t' v' d0' h1' h2' h3' O'=>?_⟩
    rw [ht] at h1'; cases h1'
    rw [h1] at h2'; cases h2'
    cases h3'
    exact s2 O'
  ·exact ⟨NoA,fun _ z=>z.elim,fun t _ _ ht=>absurd ⟨t,ht⟩ h⟩
 refine ⟨fun i=>(ch i).choose,fun i=>(ch i).choose_spec.1,fun i t ht=>?_,fun i j a z1 z2=>e.dj i j a ((ch i).choose_spec.1 a z1) ((ch j).choose_spec.1 a z2),fun i a z=>e.dx i a ((ch i).choose_spec.1 a z),fun a z=>e.dom a (z.imp (fun ⟨i,z⟩=>⟨i,(ch i).choose_spec.1 a z⟩) id),e.l1,hl.trans e.l2⟩
 obtain ⟨v,d,h1,h2,h3⟩:=e.at_ i t ht
 have hi:i < ds0.length:=by rw [hl]; exact (List.getElem?_eq_some_iff.mp h2).1
 refine ⟨v,ds0[i],h1,List.getElem?_eq_getElem hi,(ch i).choose_spec.2 t v _ ht h1 (List.getElem?_eq_getElem hi) _ (fun a z=>z.imp (fun ⟨j,z⟩=>⟨j,(ch j).choose_spec.1 a z⟩) id) fun a z z2=>?_⟩
 rcases z2 with ⟨j,z2⟩ | z2
 ·have:=e.dj i j a z ((ch j).choose_spec.1 a z2)
  subst this
  exact z2
 ·exact absurd z2 (e.dx i a z)
def leD:List Nat→List Nat→Bool
 | [],[]=>true
 | a :: r,b :: s=>decide (a≤b) && leD r s
 | _,_=>false
theorem cJ:∀ {a b:List Nat},leD a b=true→a.length=b.length∧∀ (i:Nat) x y,a[i]?=some x→b[i]?=some y→x≤y
 | [],[],_=>⟨rfl,fun i x y h=>by simp at h⟩
 | a :: r,b :: s,h=>by
  unfold leD at h
  rw [Bool.and_eq_true] at h
  obtain ⟨h1,h2⟩:=h
  obtain ⟨h3,h4⟩:=cJ h2
  refine ⟨by rw [List.length_cons,List.length_cons,h3],fun i x y e1 e2=>?_⟩
  cases i with
  | zero=>cases e1; cases e2; exact of_decide_eq_true h1
  | succ i=>exact h4 i x y e1 e2
 | [],_ :: _,h=>nomatch h
 | _ :: _,[],h=>nomatch h
theorem GN (hd:leD ds0 ds=true) (h:tF K false ds ds' d f σ H Q):tF K p ds0 ds' d f σ H Q:=by
 obtain ⟨Ox,en,R,t,en',e,hf,k⟩:=h
 obtain ⟨R1,s1,e1⟩:=e.cut (cJ hd).1 (cJ hd).2
 refine ⟨Ox,en,R1,t,en',e1,hf,fun v H' R' F P o=>k v H' R' F ⟨P.env,P.fx,fun a o q n=>P.keep a o q fun i z=>n i (s1 i a z),fun a z=>(P.own a z).imp (fun ⟨i,z⟩=>⟨i,s1 i a z⟩) id,P.dom,fun z=>nomatch z⟩ o⟩
theorem Gq (hd:leD ds0 ds=true) (h:tF K true ds ds 3 f σ H Q):tF K true ds0 ds0 3 f σ H Q:=by
 obtain ⟨Ox,en,R,t,en',e,hf,k⟩:=h
 obtain ⟨R1,s1,e1⟩:=e.cut (cJ hd).1 (cJ hd).2
 refine ⟨Ox,en,R1,t,en',e1,hf,fun v H' R' F P o=>?_⟩
 obtain ⟨a1,a2,a3⟩:=P.pure rfl
 subst a1 a2
 have nf:∀ a,F a→H a=none:=fun a z=>by
  rcases P.own a (.inl z) with ⟨i,z2⟩ | z2
  ·exact absurd (.inl z) (P.env.dx i a z2)
  ·exact z2
 have nt:NewTo H H' F:=⟨a3,fun a z=>⟨nf a z,P.env.dom a (.inr (.inl z))⟩⟩
 exact k v H' R F (Post.new e nt.1 nt.2) (Ow.full t o)
theorem Gm {g:D→Option D} (h:tF K p ds ds1 d (e1 g f) σ H Q):tUn (rF1 K g d) (tF K p ds ds1 d1 f) σ H Q:=by
 obtain ⟨Ox,en,R,t,en',e,hf,k⟩:=h
 unfold e1 at hf
 obtain ⟨⟨t1,en1⟩,h1,hf⟩:=Option.bind_eq_some_iff.mp hf
 obtain ⟨t',h3,hf⟩:=Option.map_eq_some_iff.mp hf
 cases hf
 refine ⟨Ox,en,R,t1,en1,e,h1,fun v H' R' F P o=>?_⟩
 refine ⟨Own R' Ox,t1,t,Ow.letgo P (fun _ z=>z) o,P.doms,h3,fun v2 H2 F2 n o2=>k v2 H2 R' F2 (P.fin n) (mC ▸ o2)⟩
theorem my {g:D→D→Option D} (h:tF K (p1 && p2) ds ds2 d (e2 g f1 f2) σ H Q):tOp (rF2 K g d) (tF K p1 ds ds1 d1 f1) (tF K p2 ds1 ds2 d2 f2) σ H Q:=by
 obtain ⟨Ox,en,R,t,en',e,hf,k⟩:=h
 unfold e2 at hf
 obtain ⟨⟨t1,en1⟩,h1,hf⟩:=Option.bind_eq_some_iff.mp hf
 obtain ⟨⟨t2,en2⟩,h2,hf⟩:=Option.bind_eq_some_iff.mp hf
 obtain ⟨t',h3,hf⟩:=Option.map_eq_some_iff.mp hf
 cases hf
 refine two e h1 h2 fun x y H2 R2 F1 F2 P o1 o2=>?_
 exact ⟨Own R2 Ox,t1,t2,t,Ow.letgo P (fun _=>.inl) o1,Ow.letgo P (fun _=>.inr) o2,P.doms,h3,fun v2 H3 F3 n o3=>k v2 H3 R2 F3 (P.fin n) (mC ▸ o3)⟩
theorem Post.after {H1:Hp} {R1 R2:Nat→AS} {F1 F:AS} (P1:Post K p1 ds1 Ox σ H en R en1 H1 R1 F1) (P2:Post K p2 ds2 Ox σ H1 en1 R1 en2 H' R2 F):Post K (p1 && p2) ds2 Ox σ H en R en2 H' R2 F:=by
 have P1':=P1.less (F':=NoA) fun _ z=>z.elim
 have P2':Post K p2 ds2 (U NoA Ox) σ H1 en1 R1 en2 H' R2 F:=by rw [fu]; exact P2
 have:=P1'.trans P2'
 rw [fu] at this
 exact this
theorem Post.env0 {F:AS} (P:Post K p ds' Ox σ H en R en' H' R' F):EnvOk K ds' Ox H' σ en' R':=P.env.fewer fun a z=>.inr z
theorem Gs (h:tF K (p1 && p2) ds ds1 d (jN f1 f2) σ H Q):zw (tF K p1 ds ds1 d1 f1) (tF K p2 ds1 ds1 d f2) σ H Q:=by
 obtain ⟨Ox,en,R,t,en',e,hf,k⟩:=h
 unfold jN at hf
 obtain ⟨⟨t1,en1⟩,h1,hf⟩:=Option.bind_eq_some_iff.mp hf
 refine ⟨Ox,en,R,t1,en1,e,h1,fun v H1 R1 F1 P1 o1=>?_⟩
 cases t1 with
 | bool b =>
  have ev:v=.bl b:=o1
  refine ⟨b,ev,?_⟩
  cases b with
  | true =>
   rw [if_pos rfl]
   exact ⟨Ox,en1,R1,t,en',P1.env0,hf,fun v2 H2 R2 F2 P2 o2=>k v2 H2 R2 F2 (P1.after P2) o2⟩
  | false =>
   cases hf
   rw [if_neg Bool.false_ne_true]
   refine k _ H1 R1 NoA ?_ rfl
   have:=(P1.less (F':=NoA) fun _ z=>z.elim)
   exact ⟨this.env,this.fx,this.keep,this.own,this.dom,fun hp=>this.pure (by cases p1 <;> simp_all)⟩
 | _=>cases hf
theorem GL (h:tF K (p1 && p2) ds ds1 d (eOr f1 f2) σ H Q):Dz (tF K p1 ds ds1 d1 f1) (tF K p2 ds1 ds1 d f2) σ H Q:=by
 obtain ⟨Ox,en,R,t,en',e,hf,k⟩:=h
 unfold eOr at hf
 obtain ⟨⟨t1,en1⟩,h1,hf⟩:=Option.bind_eq_some_iff.mp hf
 refine ⟨Ox,en,R,t1,en1,e,h1,fun v H1 R1 F1 P1 o1=>?_⟩
 cases t1 with
 | bool b =>
  have ev:v=.bl b:=o1
  refine ⟨b,ev,?_⟩
  cases b with
  | false =>
   rw [if_neg Bool.false_ne_true]
   exact ⟨Ox,en1,R1,t,en',P1.env0,hf,fun v2 H2 R2 F2 P2 o2=>k v2 H2 R2 F2 (P1.after P2) o2⟩
  | true =>
   cases hf
   rw [if_pos rfl]
   refine k _ H1 R1 NoA ?_ rfl
   have:=(P1.less (F':=NoA) fun _ z=>z.elim)
   exact ⟨this.env,this.fx,this.keep,this.own,this.dom,fun hp=>this.pure (by cases p1 <;> simp_all)⟩
 | _=>cases hf
def tFT (K:PySem.W.Frag) (p:Bool) (ds ds':List Nat) (f:MT):TT:=fun σ H Q =>
 ∃ Ox en R b en',EnvOk K ds Ox H σ en R∧f en=some (b,en')∧∀ H' R',Post K p ds' Ox σ H en R en' H' R' NoA→Q b H'
variable {c c1 c2:MT} {QT:Bool→Hp→Prop}
theorem rq (h:tFT K p ds ds' (tV f) σ H QT):tB (tF K p ds ds' d f) σ H QT:=by
 obtain ⟨Ox,en,R,b,en',e,hf,k⟩:=h
 unfold tV at hf
 obtain ⟨⟨t1,en1⟩,h1,hf⟩:=Option.bind_eq_some_iff.mp hf
 refine ⟨Ox,en,R,t1,en1,e,h1,fun v H1 R1 F1 P1 o1=>?_⟩
 cases t1 with
 | bool b =>
  cases hf
  exact ⟨_,o1,k H1 R1 (P1.less fun _ z=>z.elim)⟩
 | _=>cases hf
theorem EE (h:tFT K (p1 && p2) ds ds1 (cE c1 c2) σ H QT):DE (tFT K p1 ds ds1 c1) (tFT K p2 ds1 ds1 c2) σ H QT:=by
 obtain ⟨Ox,en,R,b,en',e,hf,k⟩:=h
 unfold cE at hf
 obtain ⟨⟨b1,en1⟩,h1,hf⟩:=Option.bind_eq_some_iff.mp hf
 refine ⟨Ox,en,R,b1,en1,e,h1,fun H1 R1 P1=>?_⟩
 cases b1 with
 | true =>
  rw [if_pos rfl]
  exact ⟨Ox,en1,R1,b,en',P1.env0,hf,fun H2 R2 P2=>k H2 R2 (P1.after P2)⟩
 | false =>
  cases hf
  rw [if_neg Bool.false_ne_true]
  exact k H1 R1 ⟨P1.env,P1.fx,P1.keep,P1.own,P1.dom,fun hp=>P1.pure (by cases p1 <;> simp_all)⟩
theorem F7 (h:tFT K (p1 && p2) ds ds1 (bOr c1 c2) σ H QT):tOr (tFT K p1 ds ds1 c1) (tFT K p2 ds1 ds1 c2) σ H QT:=by
 obtain ⟨Ox,en,R,b,en',e,hf,k⟩:=h
 unfold bOr at hf
 obtain ⟨⟨b1,en1⟩,h1,hf⟩:=Option.bind_eq_some_iff.mp hf
 refine ⟨Ox,en,R,b1,en1,e,h1,fun H1 R1 P1=>?_⟩
 cases b1 with
 | false =>
  rw [if_neg Bool.false_ne_true]
  exact ⟨Ox,en1,R1,b,en',P1.env0,hf,fun H2 R2 P2=>k H2 R2 (P1.after P2)⟩
 | true =>
  cases hf
  rw [if_pos rfl]
  exact k H1 R1 ⟨P1.env,P1.fx,P1.keep,P1.own,P1.dom,fun hp=>P1.pure (by cases p1 <;> simp_all)⟩
theorem EC (h:tFT K p ds ds1 (cW c) σ H QT):DA (tFT K p ds ds1 c) σ H QT:=by
 obtain ⟨Ox,en,R,b,en',e,hf,k⟩:=h
 unfold cW at hf
 obtain ⟨⟨b1,en1⟩,h1,hf⟩:=Option.map_eq_some_iff.mp hf
 cases hf
 exact ⟨Ox,en,R,b1,_,e,h1,fun H1 R1 P1=>k H1 R1 P1⟩
theorem ED (hd:leD ds0 ds=true) (h:tFT K true ds ds c σ H QT):tFT K true ds0 ds0 c σ H QT:=by
 obtain ⟨Ox,en,R,t,en',e,hf,k⟩:=h
 obtain ⟨R1,s1,e1⟩:=e.cut (cJ hd).1 (cJ hd).2
 refine ⟨Ox,en,R1,t,en',e1,hf,fun H' R' P=>?_⟩
 obtain ⟨a1,a2,a3⟩:=P.pure rfl
 subst a1 a2
 exact k H' R (Post.new e a3 fun _ z=>z.elim)
theorem GM (h:tF K (p && (p1 && p2)) ds ds2 d (eIf c f1 f2) σ H Q):tIf (tFT K p ds ds1 c) (tF K p1 ds1 ds2 d f1) (tF K p2 ds1 ds2 d f2) σ H Q:=by
 obtain ⟨Ox,en,R,t,en',e,hf,k⟩:=h
 unfold eIf at hf
 obtain ⟨⟨b1,en1⟩,h1,hf⟩:=Option.bind_eq_some_iff.mp hf
 refine ⟨Ox,en,R,b1,en1,e,h1,fun H1 R1 P1=>?_⟩
 cases b1 with
 | true =>
  rw [if_pos rfl]
  refine ⟨Ox,en1,R1,t,en',P1.env0,hf,fun v H2 R2 F2 P2 o2=>k v H2 R2 F2 ?_ o2⟩
  have:=P1.after P2
  exact ⟨this.env,this.fx,this.keep,this.own,this.dom,fun hp=>this.pure (by cases p <;> cases p1 <;> simp_all)⟩
 | false =>
  rw [if_neg Bool.false_ne_true]
  refine ⟨Ox,en1,R1,t,en',P1.env0,hf,fun v H2 R2 F2 P2 o2=>k v H2 R2 F2 ?_ o2⟩
  have:=P1.after P2
  exact ⟨this.env,this.fx,this.keep,this.own,this.dom,fun hp=>this.pure (by cases p <;> cases p1 <;> simp_all)⟩
end
end L2
namespace L2
open PySem PySem.Spec PyProof.Rows
abbrev Sh:=List (Nat ⊕ Nat)
def OwA (K:PySem.W.Frag) (O:AS) (H:Hp) (σ:St):List (D ⊕ Nat)→Sh→List V→AS→Prop
 | [],ds,vs,_=>ds=[]∧vs=[]
 | .inl t :: as,ds,vs,F=>∃ v r d dr,∃ F1 F2:AS,vs=v :: r∧ds=.inl d :: dr∧(∀ b,F1 b→F b)∧(∀ b,F2 b→F b)∧(∀ b,F1 b→¬ F2 b)∧Ow K O H t d v F1∧OwA K O H σ as dr r F2
 | .inr i :: as,ds,vs,F=>∃ v r dr,vs=v :: r∧ds=.inr i :: dr∧σ[i]?=some (some v)∧OwA K O H σ as dr r F
def tFA (K:PySem.W.Frag) (p:Bool) (ds ds':List Nat) (sh:Sh) (f:MA):TA:=fun σ H Q =>
 ∃ Ox en R as en',EnvOk K ds Ox H σ en R∧f en=some (as,en')∧∀ vs H' R' F,Post K p ds' Ox σ H en R en' H' R' F→OwA K (Own R' (U F Ox)) H' σ as sh vs F→Q vs H'
def ba (fa:MA):ME:=fun en=>(fa en).bind fun r=>(vals r.1).bind fun ts=>if ts.length≤sizeLine then some (.list ts,r.2) else none
def fT (fa:MA):ME:=fun en=>(fa en).bind fun r=>(vals r.1).bind fun ts=>if ts.length≤sizeLine then some (.tuple ts,r.2) else none
section
variable {K:PySem.W.Frag} {p p1 p2:Bool} {ds ds0 ds1 ds2 ds':List Nat} {Ox Ox' O O':AS} {H H':Hp} {σ:St} {en en' en1 en2:En} {R R':Nat→AS} {d d' d1 d2:Nat} {t t1 t2:D} {Q:VK} {f f1 f2:ME} {fa:MA} {sh:Sh} {QA:List V→Hp→Prop} {i:Nat}
theorem Fh (h:tFA K true ds ds [] ah σ H QA):mH σ H QA:=by
 obtain ⟨Ox,en,R,as,en',e,hf,k⟩:=h
 cases hf
 exact k [] H R NoA (Post.refl e) ⟨rfl,rfl⟩
theorem Bu (h:tFA K (p1 && p2) ds ds2 (.inl d :: sh) (ae f fa) σ H QA):iX (tF K p1 ds ds1 d f) (tFA K p2 ds1 ds2 sh fa) σ H QA:=by
 obtain ⟨Ox,en,R,as,en',e,hf,k⟩:=h
 unfold ae at hf
 obtain ⟨⟨t1,en1⟩,h1,hf⟩:=Option.bind_eq_some_iff.mp hf
 obtain ⟨⟨as2,en2⟩,h2,hf⟩:=Option.map_eq_some_iff.mp hf
 cases hf
 refine ⟨Ox,en,R,t1,en1,e,h1,fun x H1 R1 F1 P1 o1=>?_⟩
 refine ⟨U F1 Ox,en1,R1,as2,en2,P1.env,h2,fun vs H2 R2 F2 P2 o2=>?_⟩
 refine k (x :: vs) H2 R2 (U F1 F2) (P1.trans P2) ⟨x,vs,d,sh,F1,F2,rfl,rfl,fun _=>.inl,fun _=>.inr,fun b z1 z2=>P2.fx b z2 (.inl z1),Ow.over P1.env P2 o1,?_⟩
 rw [← kA]
 exact o2
theorem Bs (h:tFA K p ds ds2 (.inr i :: sh) (aL i fa) σ H QA):iX (ff i) (tFA K p ds ds2 sh fa) σ H QA:=by
 obtain ⟨Ox,en,R,as,en',e,hf,k⟩:=h
 unfold aL at hf
 obtain ⟨t0,h0,hf⟩:=Option.bind_eq_some_iff.mp hf
 obtain ⟨⟨as2,en2⟩,h2,hf⟩:=Option.map_eq_some_iff.mp hf
 cases hf
 have q:en[i]?=some (some t0):=by
  cases q:en[i]? with
  | none=>rw [q] at h0; cases h0
  | some o=>rw [q] at h0; exact congrArg some h0
 obtain ⟨v,d,h1,_⟩:=e.at_ i t0 q
 exact ⟨v,h1,Ox,en,R,as2,en2,e,h2,fun vs H2 R2 F2 P2 o2=>k (v :: vs) H2 R2 F2 P2 ⟨v,vs,sh,rfl,rfl,h1,o2⟩⟩
def bR (c:Nat):Sh→Bool
 | []=>true
 | .inl d :: r=>decide (c≤d) && bR c r
 | .inr _ :: _=>false
theorem OwA.ows:∀ {as:List (D ⊕ Nat)} {sh:Sh} {vs:List V} {F:AS} {ts:List D} {c:Nat},bR c sh=true→vals as=some ts→OwA K O H σ as sh vs F →
  ∃ F':AS,(∀ b,F' b→F b)∧∀ O':AS,(∀ a,O' a→O a)→(∀ a,F a→O' a→F' a)→Ows K O' H ts c vs F'
 | [],_,_,F,ts,c,_,hv,h=>by
  cases hv
  exact ⟨F,fun _ z=>z,fun _ _ _=>h.2⟩
 | .inl t :: as,_,_,F,ts,c,hs,hv,h=>by
  obtain ⟨v,r,d,dr,F1,F2,e1,e2,s1,s2,s3,h1,h2⟩:=h
  subst e1 e2
  unfold vals at hv
  obtain ⟨ts',hv',e⟩:=Option.map_eq_some_iff.mp hv
  subst e
  unfold bR at hs
  rw [Bool.and_eq_true] at hs
  obtain ⟨G1,a1,a2⟩:=Ow.cut t (of_decide_eq_true hs.1) h1
  obtain ⟨G2,b1,b2⟩:=OwA.ows hs.2 hv' h2
  refine ⟨fun b=>G1 b∨G2 b,fun b hb=>hb.elim (fun z=>s1 _ (a1 _ z)) fun z=>s2 _ (b1 _ z),fun O' ho hx=>⟨v,r,G1,G2,rfl,fun b=>.inl,fun b=>.inr,fun b z1 z2=>s3 b (a1 b z1) (b1 b z2),a2 O' ho fun b hb hz=>?_,b2 O' ho fun b hb hz=>?_⟩⟩
  ·exact (hx b (s1 b hb) hz).elim id fun z=>absurd (b1 b z) (s3 b hb)
  ·exact (hx b (s2 b hb) hz).elim (fun z=>absurd hb (s3 b (a1 b z))) id
 | .inr i :: as,_,_,F,ts,c,_,hv,_=>by cases hv
theorem OwA.len:∀ {as:List (D ⊕ Nat)} {sh:Sh} {vs:List V} {F:AS},OwA K O H σ as sh vs F→vs.length=as.length
 | [],_,_,_,h=>by rw [h.2]; rfl
 | .inl t :: as,_,_,_,h=>by
  obtain ⟨v,r,d,dr,F1,F2,e1,e2,s1,s2,s3,h1,h2⟩:=h
  rw [e1,List.length_cons,List.length_cons,h2.len]
 | .inr i :: as,_,_,_,h=>by
  obtain ⟨v,r,dr,e1,e2,e3,h2⟩:=h
  rw [e1,List.length_cons,List.length_cons,h2.len]
theorem jw:∀ {as:List (D ⊕ Nat)} {ts:List D},vals as=some ts→ts.length=as.length
 | [],_,h=>by cases h; rfl
 | .inl t :: as,_,h=>by
  unfold vals at h
  obtain ⟨ts',hv',e⟩:=Option.map_eq_some_iff.mp h
  subst e
  rw [List.length_cons,List.length_cons,jw hv']
 | .inr _ :: _,_,h=>by cases h
theorem rM {g:List D→Option D} (hs:bR 0 sh=true) (h:tF K p ds ds1 d (eN g fa) σ H Q):tCB (rFn K g d) (tFA K p ds ds1 sh fa) σ H Q:=by
 obtain ⟨Ox,en,R,t,en',e,hf,k⟩:=h
 unfold eN at hf
 obtain ⟨⟨as,en1⟩,h1,hf⟩:=Option.bind_eq_some_iff.mp hf
 obtain ⟨ts,h2,hf⟩:=Option.bind_eq_some_iff.mp hf
 obtain ⟨t',h3,hf⟩:=Option.map_eq_some_iff.mp hf
 cases hf
 refine ⟨Ox,en,R,as,en1,e,h1,fun vs H1 R1 F P o=>?_⟩
 obtain ⟨F',s1,s2⟩:=OwA.ows hs h2 o
 have o2:Ows K (Own R1 Ox) H1 ts 0 vs F':=s2 _ (fun a z=>z.imp id .inr) fun a z z2=>by
  rcases z2 with ⟨i,z2⟩ | z2
  ·exact absurd (.inl z) (P.env.dx i a z2)
  ·exact absurd z2 (P.fx a z)
 exact ⟨Own R1 Ox,ts,t,Ows.any0 ts o2,P.doms,h3,fun v2 H2 F2 n o2=>k v2 H2 R1 F2 (P.fin n) (mC ▸ o2)⟩
theorem Post.add {H1:Hp} {F G:AS} (P:Post K p ds' Ox σ H en R en' H1 R' F) (n:NewTo H1 H' G):Post K p ds' Ox σ H en R en' H' R' (U F G):=by
 have P2:Post K true ds' (U F Ox) σ H1 en' R' en' H' R' G:=Post.new P.env n.1 n.2
 have:=P.trans P2
 rw [Bool.and_true] at this
 exact this
theorem bL {l:Addr} {o:HO} (hl:H l=none):NewTo H (upd H l o) (fun b=>b=l):=by
 refine ⟨fun a u q=>?_,fun a z=>?_⟩
 ·rw [aF]
  ·exact q
  ·intro z
   subst z
   rw [hl] at q
   cases q
 ·subst z
  exact ⟨hl,_,aJ⟩
theorem Gn {c:Nat} (hs:bR c sh=true) (hd:dn d=c) (hz:d≠0) (h:tF K p ds ds1 d (ba fa) σ H Q):DB (tFA K p ds ds1 sh fa) σ H Q:=by
 obtain ⟨Ox,en,R,t,en',e,hf,k⟩:=h
 unfold ba at hf
 obtain ⟨⟨as,en1⟩,h1,hf⟩:=Option.bind_eq_some_iff.mp hf
 obtain ⟨ts,h2,hf⟩:=Option.bind_eq_some_iff.mp hf
 by_cases hlen:ts.length≤sizeLine
 case neg=>rw [if_neg hlen] at hf; cases hf
 rw [if_pos hlen] at hf
 cases hf
 refine ⟨Ox,en,R,as,en1,e,h1,fun vs H1 R1 F P o=>⟨?_,fun l hl=>?_⟩⟩
 ·rw [o.len,← jw h2]; exact hlen
 obtain ⟨F',s1,s2⟩:=OwA.ows hs h2 o
 have o2:=s2 (Own R1 (U F' Ox)) (fun a z=>z.imp id fun z=>z.imp (s1 a) id) fun a z z2=>by
  rcases z2 with ⟨i,z2⟩ | z2 | z2
  ·exact absurd (.inl z) (P.env.dx i a z2)
  ·exact z2
  ·exact absurd z2 (P.fx a z)
 have P':=(P.less s1).add (bL (o:=.lst vs) hl)
 have nl:∀ a,F' a→a≠l:=fun a z z2=>by
  subst z2
  obtain ⟨o',q⟩:=P.env.dom a (.inr (.inl (s1 a z)))
  rw [hl] at q
  cases q
 refine k (.ref l) (upd H1 l (.lst vs)) R1 _ P' ⟨l,vs,rfl,.inr ⟨hz,aJ,.inr rfl,F',fun b z=>⟨.inl z,nl b z⟩,?_⟩⟩
 rw [hd]
 refine Ows.mv (G:=F') ⟨fun a o q _=>(bL (o:=.lst vs) hl).1 a o q,fun a z=>?_⟩ ts (fun _ z=>z) o2
 rcases z with z | (z | z) | z
 ·exact .inl (.inl z)
 ·exact .inl (.inr (.inl z))
 ·exact .inr (by rw [show a=l from z]; exact hl)
 ·exact .inl (.inr (.inr z))
theorem Gj {c:Nat} (hs:bR c sh=true) (hd:dn d=c) (h:tF K p ds ds1 d (fT fa) σ H Q):Dv (tFA K p ds ds1 sh fa) σ H Q:=by
 obtain ⟨Ox,en,R,t,en',e,hf,k⟩:=h
 unfold fT at hf
 obtain ⟨⟨as,en1⟩,h1,hf⟩:=Option.bind_eq_some_iff.mp hf
 obtain ⟨ts,h2,hf⟩:=Option.bind_eq_some_iff.mp hf
 by_cases hlen:ts.length≤sizeLine
 case neg=>rw [if_neg hlen] at hf; cases hf
 rw [if_pos hlen] at hf
 cases hf
 refine ⟨Ox,en,R,as,en1,e,h1,fun vs H1 R1 F P o=>⟨?_,fun l hl=>?_⟩⟩
 ·rw [o.len,← jw h2]; exact hlen
 obtain ⟨F',s1,s2⟩:=OwA.ows hs h2 o
 have o2:=s2 (Own R1 (U F' Ox)) (fun a z=>z.imp id fun z=>z.imp (s1 a) id) fun a z z2=>by
  rcases z2 with ⟨i,z2⟩ | z2 | z2
  ·exact absurd (.inl z) (P.env.dx i a z2)
  ·exact z2
  ·exact absurd z2 (P.fx a z)
 have nl:∀ a,Own R1 (U F' Ox) a→a≠l:=fun a z z2=>by
  subst z2
  obtain ⟨o',q⟩:=P.env.dom a (z.imp id fun z=>z.imp (s1 a) id)
  rw [hl] at q
  cases q
 by_cases hz:d=0
 ·subst hz
  have P':=(P.less s1).add (G:=NoA) (H':=upd H1 l (.tup vs)) ⟨(bL (o:=.tup vs) hl).1,fun _ z=>z.elim⟩
  have eq:U F' NoA=F':=eh fun a=>⟨fun z=>z.elim id fun z=>z.elim,.inl⟩
  rw [eq] at P'
  refine k (.ref l) (upd H1 l (.tup vs)) R1 _ P' ⟨l,vs,rfl,.inl ⟨rfl,⟨aJ,fun z=>nl l z rfl⟩,?_⟩⟩
  have hc:c=0:=hd.symm
  subst hc
  exact Ows.mv (G:=F') ⟨fun a o q _=>(bL (o:=.tup vs) hl).1 a o q,fun a z=>.inl z⟩ ts (fun _ z=>z) o2
 ·have P':=(P.less s1).add (bL (o:=.tup vs) hl)
  refine k (.ref l) (upd H1 l (.tup vs)) R1 _ P' ⟨l,vs,rfl,.inr ⟨hz,aJ,.inr rfl,F',fun b z=>⟨.inl z,nl b (.inr (.inl z))⟩,?_⟩⟩
  rw [hd]
  refine Ows.mv (G:=F') ⟨fun a o q _=>(bL (o:=.tup vs) hl).1 a o q,fun a z=>?_⟩ ts (fun _ z=>z) o2
  rcases z with z | (z | z) | z
  ·exact .inl (.inl z)
  ·exact .inl (.inr (.inl z))
  ·exact .inr (by rw [show a=l from z]; exact hl)
  ·exact .inl (.inr (.inr z))
end
def spF (K:PySem.W.Frag) (dps:List Nat) (dr:Nat) (F:List D→Option (D × En)):Sp:=fun vs H Q _ =>
 ∃ Ox ts R r outs,EnvOk K dps Ox H (vs.map some) (ts.map some) R∧F ts=some (r,outs) ∧
  ∀ v H' R' Fr,Post K false dps Ox (vs.map some) H (ts.map some) R outs H' R' Fr→Ow K (Own R' (U Fr Ox)) H' r dr v Fr→Q v H'
def b8:List (D ⊕ Nat)→En→Option (List D)
 | [],_=>some []
 | .inl t :: r,en=>(b8 r en).map (t :: ·)
 | .inr i :: r,en=>(en[i]?).join.bind fun t=>(b8 r en).map (t :: ·)
def wb:List (D ⊕ Nat)→En→En→En
 | .inr i :: r,o :: outs,en=>wb r outs (en.set i o)
 | .inl _ :: r,_ :: outs,en=>wb r outs en
 | _,_,en=>en
def ar (F:List D→Option (D × En)) (fa:MA):ME:=fun en=>(fa en).bind fun r=>(b8 r.1 r.2).bind fun ts=>(F ts).map fun q=>(q.1,wb r.1 q.2 r.2)
def gh:Sh→List Nat
 | []=>[]
 | .inl _ :: r=>gh r
 | .inr i :: r=>i :: gh r
def dM (ds:List Nat):Sh→List Nat→Bool
 | [],[]=>true
 | .inl d :: r,q :: s=>decide (d=q) && dM ds r s
 | .inr i :: r,q :: s=>decide (ds[i]?=some q) && (decide (i ∉ gh r) && dM ds r s)
 | _,_=>false
def fg:Sh→Bool
 | []=>true
 | .inl _ :: r=>fg r
 | .inr _ :: _=>false
section
variable {K:PySem.W.Frag} {p p1 p2:Bool} {ds ds0 ds1 ds2 ds' dps:List Nat} {Ox Ox' O O':AS} {H H':Hp} {σ:St} {en en' en1 en2:En} {R R':Nat→AS} {d d' d1 d2 dr:Nat} {t t1 t2:D} {Q:VK} {f f1 f2:ME} {fa:MA} {sh:Sh} {QA:List V→Hp→Prop} {i:Nat}
theorem OwA.parts:∀ {as:List (D ⊕ Nat)} {sh:Sh} {vs:List V} {F:AS},OwA K O H σ as sh vs F →
  ∃ Rp:Nat→AS,(∀ (j:Nat) t,as[j]?=some (.inl t)→∃ v d,vs[j]?=some v∧sh[j]?=some (.inl d)∧Ow K O H t d v (Rp j))∧(∀ (j i:Nat),as[j]?=some (.inr i)→∃ v,vs[j]?=some v∧sh[j]?=some (.inr i)∧σ[i]?=some (some v)) ∧
   (∀ j a,Rp j a→F a)∧(∀ j j' a,Rp j a→Rp j' a→j=j')
 | [],sh,vs,F,h=>⟨fun _=>NoA,fun j t z=>by simp at z,fun j i z=>by simp at z,fun _ _ z=>z.elim,fun _ _ _ z=>z.elim⟩
 | .inl t :: as,sh,vs,F,h=>by
  obtain ⟨v,r,d,dr,F1,F2,e1,e2,s1,s2,s3,h1,h2⟩:=h
  subst e1 e2
  obtain ⟨Rp,a1,a2,a3,a4⟩:=h2.parts
  refine ⟨fun j=>match j with | 0=>F1 | j+1=>Rp j,fun j u hj=>?_,fun j i hj=>?_,fun j a z=>?_,fun j j' a z z'=>?_⟩
  ·cases j with
   | zero =>
    have:t=u:=by simpa using hj
    subst this
    exact ⟨v,d,rfl,rfl,h1⟩
   | succ j=>exact a1 j u (by simpa using hj)
  ·cases j with
   | zero=>simp at hj
   | succ j=>exact a2 j i (by simpa using hj)
  ·cases j with
   | zero=>exact s1 a z
   | succ j=>exact s2 a (a3 j a z)
  ·cases j with
   | zero =>
    cases j' with
    | zero=>rfl
    | succ j'=>exact absurd (a3 j' a z') (s3 a z)
   | succ j =>
    cases j' with
    | zero=>exact absurd (a3 j a z) (s3 a z')
    | succ j'=>rw [a4 j j' a z z']
 | .inr i :: as,sh,vs,F,h=>by
  obtain ⟨v,r,dr,e1,e2,e3,h2⟩:=h
  subst e1 e2
  obtain ⟨Rp,a1,a2,a3,a4⟩:=h2.parts
  refine ⟨fun j=>match j with | 0=>NoA | j+1=>Rp j,fun j u hj=>?_,fun j i' hj=>?_,fun j a z=>?_,fun j j' a z z'=>?_⟩
  ·cases j with
   | zero=>simp at hj
   | succ j=>exact a1 j u (by simpa using hj)
  ·cases j with
   | zero =>
    have:i=i':=by simpa using hj
    subst this
    exact ⟨v,rfl,rfl,e3⟩
   | succ j=>exact a2 j i' (by simpa using hj)
  ·cases j with
   | zero=>exact z.elim
   | succ j=>exact a3 j a z
  ·cases j with
   | zero=>exact z.elim
   | succ j =>
    cases j' with
    | zero=>exact z'.elim
    | succ j'=>rw [a4 j j' a z z']
theorem jQ:∀ {as:List (D ⊕ Nat)} {en:En} {ts:List D},b8 as en=some ts→ts.length=as.length∧∀ (j:Nat) t,ts[j]?=some t→as[j]?=some (.inl t)∨∃ i,as[j]?=some (.inr i)∧en[i]?=some (some t)
 | [],_,_,h=>by cases h; exact ⟨rfl,fun j t z=>by simp at z⟩
 | .inl t :: as,en,_,h=>by
  unfold b8 at h
  obtain ⟨ts',h',e⟩:=Option.map_eq_some_iff.mp h
  subst e
  obtain ⟨l,g⟩:=jQ h'
  refine ⟨by rw [List.length_cons,List.length_cons,l],fun j u z=>?_⟩
  cases j with
  | zero=>simp at z; subst z; exact .inl rfl
  | succ j=>exact g j u (by simpa using z)
 | .inr i :: as,en,_,h=>by
  unfold b8 at h
  obtain ⟨t,ht,h⟩:=Option.bind_eq_some_iff.mp h
  obtain ⟨ts',h',e⟩:=Option.map_eq_some_iff.mp h
  subst e
  obtain ⟨l,g⟩:=jQ h'
  refine ⟨by rw [List.length_cons,List.length_cons,l],fun j u z=>?_⟩
  cases j with
  | zero =>
   simp at z
   subst z
   refine .inr ⟨i,rfl,?_⟩
   cases q:en[i]? with
   | none=>rw [q] at ht; cases ht
   | some o=>rw [q] at ht; exact congrArg some ht
  | succ j=>exact g j u (by simpa using z)
theorem iJ:∀ {sh:Sh} {dps:List Nat},dM ds sh dps=true→sh.length=dps.length∧(∀ (j d:Nat),sh[j]?=some (.inl d)→dps[j]?=some d)∧(∀ (j i:Nat),sh[j]?=some (.inr i)→∃ q,dps[j]?=some q∧ds[i]?=some q) ∧
   (∀ (j j' i:Nat),sh[j]?=some (.inr i)→sh[j']?=some (.inr i)→j=j')
 | [],[],_=>⟨rfl,fun j d z=>by simp at z,fun j d z=>by simp at z,fun j j' d z=>by simp at z⟩
 | .inl d :: r,q :: s,h=>by
  unfold dM at h
  rw [Bool.and_eq_true] at h
  obtain ⟨h1,h2⟩:=h
  have h1':=of_decide_eq_true h1
  subst h1'
  obtain ⟨l,a,b,c⟩:=iJ h2
  refine ⟨by rw [List.length_cons,List.length_cons,l],fun j u z=>?_,fun j i z=>?_,fun j j' i z z'=>?_⟩
  ·cases j with
   | zero=>simp at z; subst z; rfl
   | succ j=>exact a j u (by simpa using z)
  ·cases j with
   | zero=>simp at z
   | succ j=>exact b j i (by simpa using z)
  ·cases j with
   | zero=>simp at z
   | succ j =>
    cases j' with
    | zero=>simp at z'
    | succ j'=>rw [c j j' i (by simpa using z) (by simpa using z')]
 | .inr i0 :: r,q :: s,h=>by
  unfold dM at h
  rw [Bool.and_eq_true,Bool.and_eq_true] at h
  obtain ⟨h1,h2,h3⟩:=h
  have h1':=of_decide_eq_true h1
  have h2':=of_decide_eq_true h2
  obtain ⟨l,a,b,c⟩:=iJ h3
  have mem:∀ {r:Sh} {j i:Nat},r[j]?=some (.inr i)→i∈gh r:=fun {r}=>by
   induction r with
   | nil=>intro j i z; simp at z
   | cons x r ih =>
    intro j i z
    cases j with
    | zero =>
     simp at z
     subst z
     unfold gh
     exact List.mem_cons_self
    | succ j =>
     have:=ih (j:=j) (i:=i) (by simpa using z)
     cases x with
     | inl _=>exact this
     | inr _=>exact List.mem_cons_of_mem _ this
  refine ⟨by rw [List.length_cons,List.length_cons,l],fun j u z=>?_,fun j i z=>?_,fun j j' i z z'=>?_⟩
  ·cases j with
   | zero=>simp at z
   | succ j=>exact a j u (by simpa using z)
  ·cases j with
   | zero=>simp at z; subst z; exact ⟨q,rfl,h1'⟩
   | succ j=>exact b j i (by simpa using z)
  ·cases j with
   | zero =>
    simp at z
    subst z
    cases j' with
    | zero=>rfl
    | succ j'=>exact absurd (mem (by simpa using z')) h2'
   | succ j =>
    cases j' with
    | zero =>
     simp at z'
     subst z'
     exact absurd (mem (by simpa using z)) h2'
    | succ j'=>rw [c j j' i (by simpa using z) (by simpa using z')]
 | [],_ :: _,h=>nomatch h
 | .inl _ :: _,[],h=>nomatch h
 | .inr _ :: _,[],h=>nomatch h
theorem mD:∀ (as:List (D ⊕ Nat)) (outs en:En),(wb as outs en).length=en.length
 | [],_,_=>by unfold wb; rfl
 | .inl _ :: as,[],_=>by unfold wb; rfl
 | .inr _ :: as,[],_=>by unfold wb; rfl
 | .inl _ :: as,o :: outs,en=>by unfold wb; exact mD as outs en
 | .inr i :: as,o :: outs,en=>by unfold wb; rw [mD as outs _,List.length_set]
theorem iq:∀ (as:List (D ⊕ Nat)) (outs en:En) (i:Nat),(∀ j:Nat,as[j]?≠some (.inr i))→(wb as outs en)[i]?=en[i]?
 | [],_,_,_,_=>by unfold wb; rfl
 | .inl _ :: as,[],_,_,_=>by unfold wb; rfl
 | .inr _ :: as,[],_,_,_=>by unfold wb; rfl
 | .inl _ :: as,o :: outs,en,i,h=>by unfold wb; exact iq as outs en i fun j=>h (j+1)
 | .inr k :: as,o :: outs,en,i,h=>by
  unfold wb
  rw [iq as outs _ i fun j=>h (j+1),List.getElem?_set_ne]
  intro e
  subst e
  exact h 0 rfl
theorem oZ:∀ (as:List (D ⊕ Nat)) (outs en:En) (i j:Nat),as[j]?=some (.inr i)→(∀ j':Nat,as[j']?=some (.inr i)→j'=j)→outs.length=as.length→i < en.length→(wb as outs en)[i]?=outs[j]?
 | [],_,_,_,_,h,_,_,_=>by simp at h
 | .inl _ :: as,[],_,_,_,_,_,h,_=>by simp at h
 | .inr _ :: as,[],_,_,_,_,_,h,_=>by simp at h
 | .inl _ :: as,o :: outs,en,i,j,h,u,l,b=>by
  unfold wb
  cases j with
  | zero=>simp at h
  | succ j=>exact oZ as outs en i j (by simpa using h) (fun j' z=>by have:=u (j'+1) (by simpa using z); omega) (by simpa using l) b
 | .inr k :: as,o :: outs,en,i,j,h,u,l,b=>by
  unfold wb
  cases j with
  | zero =>
   have e:k=i:=by simpa using h
   subst e
   rw [iq as outs _ k fun j' z=>by have:=u (j'+1) (by simpa using z); omega]
   rw [List.getElem?_set_self b]
   rfl
  | succ j=>exact oZ as outs _ i j (by simpa using h) (fun j' z=>by have:=u (j'+1) (by simpa using z); omega) (by simpa using l) (by rw [List.length_set]; exact b)
end
end L2
namespace L2
open PySem PySem.Spec PyProof.Rows
section
variable {K:PySem.W.Frag} {p p1 p2:Bool} {ds ds0 ds1 ds2 ds' dps:List Nat} {Ox Ox' O O':AS} {H H':Hp} {σ:St} {en en' en1 en2:En} {R R':Nat→AS} {d d' d1 d2 dr:Nat} {t t1 t2:D} {Q:VK} {f f1 f2:ME} {fa:MA} {sh:Sh} {QA:List V→Hp→Prop} {i:Nat}
theorem OwA.shl:∀ {as:List (D ⊕ Nat)} {sh:Sh} {vs:List V} {F:AS},OwA K O H σ as sh vs F→sh.length=as.length
 | [],_,_,_,h=>by rw [h.1]; rfl
 | .inl t :: as,_,_,_,h=>by
  obtain ⟨v,r,d,dr,F1,F2,e1,e2,s1,s2,s3,h1,h2⟩:=h
  rw [e2,List.length_cons,List.length_cons,h2.shl]
 | .inr i :: as,_,_,_,h=>by
  obtain ⟨v,r,dr,e1,e2,e3,h2⟩:=h
  rw [e2,List.length_cons,List.length_cons,h2.shl]
theorem j8:∀ {sh:Sh},fg sh=true→∀ (j i:Nat),sh[j]?≠some (.inr i)
 | [],_,j,i,z=>by simp at z
 | .inl _ :: r,h,j,i,z=>by
  cases j with
  | zero=>simp at z
  | succ j=>exact j8 (sh:=r) h j i (by simpa using z)
 | .inr _ :: r,h,_,_,_=>nomatch h
theorem tZ {E:XK} {F:List D→Option (D × En)} (hc:dM ds1 sh dps=true) (h:tF K (p && fg sh) ds ds1 dr (ar F fa) σ H Q):pk (spF K dps dr F) [] E (tFA K p ds ds1 sh fa) σ H Q:=by
 obtain ⟨Ox,en,R,t,en',e,hf,k⟩:=h
 unfold ar at hf
 obtain ⟨⟨as,en1⟩,h1,hf⟩:=Option.bind_eq_some_iff.mp hf
 obtain ⟨ts,h2,hf⟩:=Option.bind_eq_some_iff.mp hf
 obtain ⟨⟨r,outs⟩,h3,hf⟩:=Option.map_eq_some_iff.mp hf
 cases hf
 refine ⟨Ox,en,R,as,en1,e,h1,fun vs H1 R1 F0 P o=>?_⟩
 obtain ⟨cl,c1,c2,c3⟩:=iJ hc
 obtain ⟨Rp,a1,a2,a3,a4⟩:=o.parts
 obtain ⟨tl,tg⟩:=jQ h2
 have ol:=o.len
 have asl:∀ (j i:Nat),as[j]?=some (.inr i)→sh[j]?=some (.inr i):=fun j i z=>(a2 j i z).choose_spec.2.1
 have asr:∀ (j i:Nat),sh[j]?=some (.inr i)→as[j]?=some (.inr i):=fun j i z=>by
  cases q:as[j]? with
  | none =>
   have e1:as.length≤j:=List.getElem?_eq_none_iff.mp q
   have e2:j < sh.length:=(List.getElem?_eq_some_iff.mp z).1
   have:=o.shl
   omega
  | some x =>
   cases x with
   | inl t =>
    obtain ⟨_,_,_,e2,_⟩:=a1 j t q
    rw [z] at e2; cases e2
   | inr i' =>
    have:=asl j i' q
    rw [z] at this
    cases this
    rfl
 let Rq:Nat→AS:=fun j=>match sh[j]? with | some (.inr i)=>R1 i | _=>Rp j
 have rq1:∀ j i:Nat,sh[j]?=some (.inr i)→Rq j=R1 i:=fun j i z=>by show (match sh[j]? with | some (.inr i)=>R1 i | _=>Rp j)=R1 i; rw [z]
 have rq2:∀ j:Nat,(∀ i:Nat,sh[j]?≠some (.inr i))→Rq j=Rp j:=fun j z=>by
  show (match sh[j]? with | some (.inr i)=>R1 i | _=>Rp j)=Rp j
  split
  ·next i q=>exact absurd q (z i)
  ·rfl
 have rqc:∀ (j:Nat) a,Rq j a→(∃ i,sh[j]?=some (.inr i)∧R1 i a)∨Rp j a:=fun j a z=>by
  by_cases q:∃ i,sh[j]?=some (.inr i)
  ·obtain ⟨i,q⟩:=q
   rw [rq1 j i q] at z
   exact .inl ⟨i,q,z⟩
  ·rw [rq2 j fun i z=>q ⟨i,z⟩] at z
   exact .inr z
 let Oxp:AS:=fun a=>Ox a∨∃ i,R1 i a∧∀ j:Nat,sh[j]?≠some (.inr i)
 have sub:∀ a,Own Rq Oxp a→Own R1 (U F0 Ox) a:=fun a z=>by
  rcases z with ⟨j,z⟩ | z | ⟨i,z,_⟩
  ·rcases rqc j a z with ⟨i,_,z⟩ | z
   ·exact .inl ⟨i,z⟩
   ·exact .inr (.inl (a3 j a z))
  ·exact .inr (.inr z)
  ·exact .inl ⟨i,z⟩
 have ec:EnvOk K dps Oxp H1 (vs.map some) (ts.map some) Rq:=by
  refine ⟨fun j u hu=>?_,fun j j' a z z'=>?_,fun j a z z2=>?_,fun a z=>P.env.dom a (sub a z),by rw [List.length_map,List.length_map,tl,ol],?_⟩
  ·rw [List.getElem?_map] at hu
   obtain ⟨u',hu,eu⟩:=Option.map_eq_some_iff.mp hu
   cases eu
   rcases tg j u hu with q | ⟨i,q,qe⟩
   ·obtain ⟨v,d,b1,b2,b3⟩:=a1 j u q
    refine ⟨v,d,by rw [List.getElem?_map,b1]; rfl,c1 j d b2,?_⟩
    rw [rq2 j fun i z=>by rw [b2] at z; cases z]
    exact Ow.grow sub u (fun _ z=>z) b3
   ·obtain ⟨v,b1,b2,b3⟩:=a2 j i q
    obtain ⟨v',d,g1,g2,g3⟩:=P.env.at_ i u qe
    rw [b3] at g1
    cases g1
    obtain ⟨qd,q1,q2⟩:=c2 j i b2
    rw [g2] at q2
    cases q2
    refine ⟨v,d,by rw [List.getElem?_map,b1]; rfl,q1,?_⟩
    rw [rq1 j i b2]
    exact Ow.grow sub u (fun _ z=>z) g3
  ·rcases rqc j a z with ⟨i,q,z⟩ | z <;> rcases rqc j' a z' with ⟨i',q',z'⟩ | z'
   ·have:=P.env.dj i i' a z z'
    subst this
    exact c3 j j' i q q'
   ·exact absurd (.inl (a3 j' a z')) (P.env.dx i a z)
   ·exact absurd (.inl (a3 j a z)) (P.env.dx i' a z')
   ·exact a4 j j' a z z'
  ·rcases rqc j a z with ⟨i,q,z⟩ | z
   ·rcases z2 with z2 | ⟨i',z2,n⟩
    ·exact P.env.dx i a z (.inr z2)
    ·have:=P.env.dj i i' a z z2
     subst this
     exact n j q
   ·rcases z2 with z2 | ⟨i',z2,n⟩
    ·exact P.fx a (a3 j a z) z2
    ·exact P.env.dx i' a z2 (.inl (a3 j a z))
  ·have:=o.shl
   rw [List.length_map]
   omega
 rw [List.append_nil]
 refine ⟨Oxp,ts,Rq,r,outs,ec,h3,fun v H2 R2 Fr Pc oc=>?_⟩
 have outl:outs.length=as.length:=by rw [Pc.env.l1,List.length_map]; exact ol
 classical
 let R3:Nat→AS:=fun i=>if q:∃ j:Nat,sh[j]?=some (.inr i) then R2 q.choose else R1 i
 have r31:∀ (i j:Nat),sh[j]?=some (.inr i)→R3 i=R2 j:=fun i j z=>by
  have q:∃ j:Nat,sh[j]?=some (.inr i):=⟨j,z⟩
  have:q.choose=j:=c3 _ _ i q.choose_spec z
  show (if q:∃ j:Nat,sh[j]?=some (.inr i) then R2 q.choose else R1 i)=R2 j
  rw [dif_pos q,this]
 have r32:∀ i:Nat,(∀ j:Nat,sh[j]?≠some (.inr i))→R3 i=R1 i:=fun i z=>by
  show (if q:∃ j:Nat,sh[j]?=some (.inr i) then R2 q.choose else R1 i)=R1 i
  rw [dif_neg fun ⟨j,q⟩=>z j q]
 have r3c:∀ (i:Nat) a,R3 i a→(∃ j:Nat,sh[j]?=some (.inr i)∧R2 j a)∨((∀ j:Nat,sh[j]?≠some (.inr i))∧R1 i a):=fun i a z=>by
  by_cases q:∃ j:Nat,sh[j]?=some (.inr i)
  ·obtain ⟨j,q⟩:=q
   rw [r31 i j q] at z
   exact .inl ⟨j,q,z⟩
  ·rw [r32 i fun j z=>q ⟨j,z⟩] at z
   exact .inr ⟨fun j z=>q ⟨j,z⟩,z⟩
 have sub3:∀ a,Own R3 (U Fr Ox) a→Own R2 (U Fr Oxp) a:=fun a z=>by
  rcases z with ⟨i,z⟩ | z | z
  ·rcases r3c i a z with ⟨j,_,z⟩ | ⟨n,z⟩
   ·exact .inl ⟨j,z⟩
   ·exact .inr (.inr (.inr ⟨i,z,n⟩))
  ·exact .inr (.inl z)
  ·exact .inr (.inr (.inl z))
 have back:∀ a,(Fr a∨∃ j,R2 j a)→Own R1 (U F0 Ox) a∨H1 a=none:=fun a z=>by
  rcases Pc.own a z with ⟨j,z⟩ | z
  ·exact .inl (sub a (.inl ⟨j,z⟩))
  ·exact .inr z
 have back2:∀ a,(Fr a∨∃ j,R2 j a)→(F0 a∨∃ i,R1 i a)∨H1 a=none:=fun a z=>by
  rcases Pc.own a z with ⟨j,z⟩ | z
  ·rcases rqc j a z with ⟨i,_,z⟩ | z
   ·exact .inl (.inr ⟨i,z⟩)
   ·exact .inl (.inl (a3 j a z))
  ·exact .inr z
 have n1:∀ a,H1 a=none→H a=none:=fun a z=>by
  cases q:H a with
  | none=>rfl
  | some o =>
   obtain ⟨o',q'⟩:=P.dom a o q
   rw [z] at q'
   cases q'
 have rqsub:∀ j a,Rq j a→Own R1 (U F0 Ox) a:=fun j a z=>sub a (.inl ⟨j,z⟩)
 have env3:EnvOk K ds1 (U Fr Ox) H2 σ (wb as outs en1) R3:=by
  refine ⟨fun i u hu=>?_,fun i i' a z z'=>?_,fun i a z z2=>?_,fun a z=>Pc.env.dom a (sub3 a z),by rw [mD]; exact P.env.l1,P.env.l2⟩
  ·by_cases q:∃ j:Nat,as[j]?=some (.inr i)
   ·obtain ⟨j,q⟩:=q
    obtain ⟨v,b1,b2,b3⟩:=a2 j i q
    have hil:i < en1.length:=by rw [P.env.l1]; exact (List.getElem?_eq_some_iff.mp b3).1
    rw [oZ as outs en1 i j q (fun j' z=>c3 j' j i (asl j' i z) b2) outl hil] at hu
    obtain ⟨v',d,g1,g2,g3⟩:=Pc.env.at_ j u hu
    rw [List.getElem?_map,b1] at g1
    cases g1
    obtain ⟨qd,q1,q2⟩:=c2 j i b2
    rw [g2] at q1
    cases q1
    refine ⟨v,d,b3,q2,?_⟩
    rw [r31 i j b2]
    exact Ow.grow sub3 u (fun _ z=>z) g3
   ·rw [iq as outs en1 i fun j z=>q ⟨j,z⟩] at hu
    have ns:∀ j:Nat,sh[j]?≠some (.inr i):=fun j z=>q ⟨j,asr j i z⟩
    obtain ⟨v,d,g1,g2,g3⟩:=P.env.at_ i u hu
    refine ⟨v,d,g1,g2,?_⟩
    rw [r32 i ns]
    refine Ow.mv (G:=R1 i) ⟨fun a o q z=>Pc.keep a o q fun j zj=>?_,fun a z=>?_⟩ u (fun _ z=>z) g3
    ·rcases z with z | z
     ·exact z (rqsub j a zj)
     ·rcases rqc j a zj with ⟨i',q',z'⟩ | z'
      ·have:=P.env.dj i i' a z z'
       subst this
       exact ns j q'
      ·exact P.env.dx i a z (.inl (a3 j a z'))
    ·rcases z with ⟨i',z⟩ | z | z
     ·rcases r3c i' a z with ⟨j,_,z⟩ | ⟨n,z⟩
      ·exact back a (.inr ⟨j,z⟩)
      ·exact .inl (.inl ⟨i',z⟩)
     ·exact back a (.inl z)
     ·exact .inl (.inr (.inr z))
  ·rcases r3c i a z with ⟨j,q,z⟩ | ⟨n,z⟩ <;> rcases r3c i' a z' with ⟨j',q',z'⟩ | ⟨n',z'⟩
   ·have:=Pc.env.dj j j' a z z'
    subst this
    rw [q] at q'
    cases q'
    rfl
   ·exact absurd (.inr (.inr ⟨i',z',n'⟩)) (Pc.env.dx j a z)
   ·exact absurd (.inr (.inr ⟨i,z,n⟩)) (Pc.env.dx j' a z')
   ·exact P.env.dj i i' a z z'
  ·rcases r3c i a z with ⟨j,q,z⟩ | ⟨n,z⟩
   ·exact Pc.env.dx j a z (z2.imp id .inl)
   ·rcases z2 with z2 | z2
    ·exact Pc.fx a z2 (.inr ⟨i,z,n⟩)
    ·exact P.env.dx i a z (.inr z2)
 refine k v H2 R3 Fr ⟨env3,fun a z z2=>Pc.fx a z (.inl z2),fun a o q n=>?_,fun a z=>?_,fun a o q=>?_,fun hp=>?_⟩ (Ow.grow sub3 r (fun _ z=>z) oc)
 ·refine Pc.keep a o (P.keep a o q n) fun j z=>?_
  have nn:∀ i,¬ R1 i a:=fun i z=>by
   rcases P.own a (.inr ⟨i,z⟩) with ⟨i',z⟩ | z
   ·exact n i' z
   ·rw [q] at z; cases z
  rcases rqc j a z with ⟨i,_,z⟩ | z
  ·exact nn i z
  ·rcases P.own a (.inl (a3 j a z)) with ⟨i',z⟩ | z
   ·exact n i' z
   ·rw [q] at z; cases z
 ·have:(F0 a∨∃ i,R1 i a)∨H1 a=none:=by
   rcases z with z | ⟨i,z⟩
   ·exact back2 a (.inl z)
   ·rcases r3c i a z with ⟨j,_,z⟩ | ⟨n,z⟩
    ·exact back2 a (.inr ⟨j,z⟩)
    ·exact .inl (.inr ⟨i,z⟩)
  rcases this with z | z
  ·exact P.own a z
  ·exact .inr (n1 a z)
 ·obtain ⟨o',q'⟩:=P.dom a o q
  exact Pc.dom a o' q'
 ·obtain ⟨hp1,hp2⟩:=(Bool.and_eq_true _ _ ▸ hp:p=true∧fg sh=true)
  obtain ⟨b1,b2,b3⟩:=P.pure hp1
  have ns:=j8 hp2
  refine ⟨?_,?_,fun a o q=>?_⟩
  ·show wb as outs en1=en
   rw [← b1]
   refine List.ext_getElem? fun i=>?_
   exact iq as outs en1 i fun j z=>ns j i (asl j i z)
  ·rw [← b2]
   funext i
   exact r32 i fun j=>ns j i
  ·refine Pc.keep a o (b3 a o q) fun j z=>?_
   rcases rqc j a z with ⟨i,z,_⟩ | z
   ·exact ns j i z
   ·have zf:=a3 j a z
    rcases P.own a (.inl zf) with ⟨i,z2⟩ | z2
    ·rw [← b2] at z2
     exact P.env.dx i a z2 (.inl zf)
    ·rw [q] at z2; cases z2
end
end L2
namespace L2
open PySem PySem.Spec PyProof.Rows
inductive Fl where
 | nx (en:En) | rt (t:D) (en:En) | ct (en:En)
abbrev MS:=En→Option Fl
structure Jd where
 lk:List Nat
 dsr:List Nat
 dr:Nat
 dsl:List Nat
structure PostS (K:PySem.W.Frag) (lk:List Nat) (ds':List Nat) (Ox:AS) (σ:St) (H:Hp) (R:Nat→AS) (σ':St) (en':En) (H':Hp) (R':Nat→AS) (F:AS):Prop where
 env:EnvOk K ds' (U F Ox) H' σ' en' R'
 fx:∀ a,F a→¬ Ox a
 keep:∀ a o,H a=some o→(∀ i,¬ R i a)→H' a=some o
 own:∀ a,(F a∨∃ i,R' i a)→(∃ i,R i a)∨H a=none
 dom:∀ a o,H a=some o→∃ o',H' a=some o'
 lk:∀ j∈lk,σ'[j]?=σ[j]?
def tFS (K:PySem.W.Frag) (J:Jd) (ds ds':List Nat) (f:MS):TS:=fun D σ H =>
 ∃ Ox en R fl,EnvOk K ds Ox H σ en R∧f en=some fl∧match fl with
  | .nx en'=>∀ σ' H' R',PostS K J.lk ds' Ox σ H R σ' en' H' R' NoA→D.nx σ' H'
  | .ct en'=>∀ σ' H' R',PostS K J.lk J.dsl Ox σ H R σ' en' H' R' NoA→D.ct σ' H'
  | .rt t en'=>∀ v σ' H' R' F,PostS K J.lk J.dsr Ox σ H R σ' en' H' R' F→Ow K (Own R' (U F Ox)) H' t J.dr v F→D.rt v H'
def ak (f g:MS):MS:=fun en=>(f en).bind fun fl=>match fl with
 | .nx en1=>g en1
 | .rt t en1=>some (.rt t en1)
 | .ct en1=>some (.ct en1)
def aq (i:Nat) (f:ME):MS:=fun en=>(f en).map fun r=>.nx (r.2.set i (some r.1))
def bY (f:ME):MS:=fun en=>(f en).map fun r=>.nx r.2
def aC (f:ME):MS:=fun en=>(f en).map fun r=>.rt r.1 r.2
def G9:MS:=fun en=>some (.rt .none en)
def bq:MS:=fun en=>some (.nx en)
def Ha:MS:=fun en=>some (.ct en)
def dD:MS:=fun _=>none
def sIf (c:MT) (f g:MS):MS:=fun en=>(c en).bind fun r=>if r.1 then f r.2 else g r.2
section
variable {K:PySem.W.Frag} {p p1 p2:Bool} {J:Jd} {lk:List Nat} {ds ds0 ds1 ds2 ds':List Nat} {Ox Ox' O O':AS} {H H':Hp} {σ σ':St} {en en' en1 en2:En} {R R':Nat→AS} {d d' d1 d2 dr:Nat} {t t1 t2:D} {f f1 f2:ME} {c:MT} {m m1 m2:MS} {i:Nat} {D:Ends}
theorem PostS.refl (e:EnvOk K ds Ox H σ en R):PostS K lk ds Ox σ H R σ en H R NoA :=
 ⟨by rw [fu]; exact e,fun _ z=>z.elim,fun _ _ q _=>q,fun a z=>z.elim (fun z=>z.elim) .inl,fun a o q=>⟨o,q⟩,fun _ _=>rfl⟩
theorem PostS.env0 {F:AS} (P:PostS K lk ds' Ox σ H R σ' en' H' R' F):EnvOk K ds' Ox H' σ' en' R':=P.env.fewer fun a z=>.inr z
theorem PostS.less {F F':AS} (P:PostS K lk ds' Ox σ H R σ' en' H' R' F) (h:∀ a,F' a→F a):PostS K lk ds' Ox σ H R σ' en' H' R' F' :=
 ⟨P.env.fewer fun a z=>z.imp (h a) id,fun a z=>P.fx a (h a z),P.keep,fun a z=>P.own a (z.imp (h a) id),P.dom,P.lk⟩
theorem PostS.after {σ1 σ2:St} {H1:Hp} {R1 R2:Nat→AS} {F:AS} (P1:PostS K lk ds1 Ox σ H R σ1 en1 H1 R1 NoA) (P2:PostS K lk ds2 Ox σ1 H1 R1 σ2 en2 H' R2 F):PostS K lk ds2 Ox σ H R σ2 en2 H' R2 F:=by
 have n1:∀ a,H1 a=none→H a=none:=fun a z=>by
  cases q:H a with
  | none=>rfl
  | some o =>
   obtain ⟨o',q'⟩:=P1.dom a o q
   rw [z] at q'
   cases q'
 refine ⟨P2.env,P2.fx,fun a o q n=>?_,fun a z=>?_,fun a o q=>?_,fun j hj=>(P2.lk j hj).trans (P1.lk j hj)⟩
 ·refine P2.keep a o (P1.keep a o q n) fun i z=>?_
  rcases P1.own a (.inr ⟨i,z⟩) with ⟨j,z⟩ | z
  ·exact n j z
  ·rw [q] at z; cases z
 ·rcases P2.own a z with z | z
  ·exact P1.own a (.inr z)
  ·exact .inr (n1 a z)
 ·obtain ⟨o',q'⟩:=P1.dom a o q
  exact P2.dom a o' q'
theorem Post.s {F:AS} (P:Post K p ds' Ox σ H en R en' H' R' F):PostS K lk ds' Ox σ H R σ en' H' R' F:=⟨P.env,P.fx,P.keep,P.own,P.dom,fun _ _=>rfl⟩
theorem PostS.cut {F:AS} (P:PostS K lk ds1 Ox σ H R σ' en' H' R' F) (hd:leD ds2 ds1=true):∃ R2,(∀ i a,R2 i a→R' i a)∧PostS K lk ds2 Ox σ H R σ' en' H' R2 F:=by
 obtain ⟨R2,s1,e2⟩:=P.env.cut (cJ hd).1 (cJ hd).2
 exact ⟨R2,s1,e2,P.fx,P.keep,fun a z=>P.own a (z.imp id fun ⟨i,z⟩=>⟨i,s1 i a z⟩),P.dom,P.lk⟩
theorem EJ (h:tFS K J ds ds bq D σ H):zr D σ H:=by
 obtain ⟨Ox,en,R,fl,e,hf,k⟩:=h
 cases hf
 exact k σ H R (PostS.refl e)
theorem EG (h:tFS K J ds ds2 (ak m1 m2) D σ H):Dw (tFS K J ds ds1 m1) (tFS K J ds1 ds2 m2) D σ H:=by
 obtain ⟨Ox,en,R,fl,e,hf,k⟩:=h
 unfold ak at hf
 obtain ⟨fl1,h1,hf⟩:=Option.bind_eq_some_iff.mp hf
 refine ⟨Ox,en,R,fl1,e,h1,?_⟩
 cases fl1 with
 | nx en1 =>
  intro σ1 H1 R1 P1
  refine ⟨Ox,en1,R1,fl,P1.env0,hf,?_⟩
  cases fl with
  | nx en2=>exact fun σ2 H2 R2 P2=>k σ2 H2 R2 (P1.after P2)
  | ct en2=>exact fun σ2 H2 R2 P2=>k σ2 H2 R2 (P1.after P2)
  | rt t en2=>exact fun v σ2 H2 R2 F P2 o=>k v σ2 H2 R2 F (P1.after P2) o
 | ct en1=>cases hf; exact k
 | rt t en1=>cases hf; exact k
theorem EF (hd:leD ds1 ds2=true) (h:tFS K J ds ds1 m D σ H):tFS K J ds ds2 m D σ H:=by
 obtain ⟨Ox,en,R,fl,e,hf,k⟩:=h
 refine ⟨Ox,en,R,fl,e,hf,?_⟩
 cases fl with
 | nx en2 =>
  intro σ2 H2 R2 P2
  obtain ⟨R3,_,P3⟩:=P2.cut hd
  exact k σ2 H2 R3 P3
 | ct en2=>exact k
 | rt t en2=>exact k
theorem EL (h:tFS K J ds ds1 (bY f) D σ H):zt (tF K p ds ds1 d f) D σ H:=by
 obtain ⟨Ox,en,R,fl,e,hf,k⟩:=h
 unfold bY at hf
 obtain ⟨⟨t,en1⟩,h1,hf⟩:=Option.map_eq_some_iff.mp hf
 cases hf
 exact ⟨Ox,en,R,t,en1,e,h1,fun v H1 R1 F P o=>k σ H1 R1 (P.s.less fun _ z=>z.elim)⟩
theorem EH (hd:leD J.dsr ds1=true) (h:tFS K J ds ds' (aC f) D σ H):Dx (tF K p ds ds1 J.dr f) D σ H:=by
 obtain ⟨Ox,en,R,fl,e,hf,k⟩:=h
 unfold aC at hf
 obtain ⟨⟨t,en1⟩,h1,hf⟩:=Option.map_eq_some_iff.mp hf
 cases hf
 refine ⟨Ox,en,R,t,en1,e,h1,fun v H1 R1 F P o=>?_⟩
 obtain ⟨R2,s1,P2⟩:=(P.s (lk:=J.lk)).cut hd
 exact k v σ H1 R2 F P2 (Ow.grow (fun a z=>z.imp (fun ⟨i,z⟩=>⟨i,s1 i a z⟩) id) t (fun _ z=>z) o)
theorem tE (h:tFS K J ds ds' dD D σ H):mI D σ H:=by
 obtain ⟨Ox,en,R,fl,e,hf,k⟩:=h
 cases hf
theorem F8 (h:tFS K J ds ds2 (sIf c m1 m2) D σ H):DC (tFT K p ds ds1 c) (tFS K J ds1 ds2 m1) (tFS K J ds1 ds2 m2) D σ H:=by
 obtain ⟨Ox,en,R,fl,e,hf,k⟩:=h
 unfold sIf at hf
 obtain ⟨⟨b,en1⟩,h1,hf⟩:=Option.bind_eq_some_iff.mp hf
 refine ⟨Ox,en,R,b,en1,e,h1,fun H1 R1 P1=>?_⟩
 have fin:∀ m,m en1=some fl→tFS K J ds1 ds2 m D σ H1:=fun m hm=>by
  refine ⟨Ox,en1,R1,fl,P1.env0,hm,?_⟩
  cases fl with
  | nx en2=>exact fun σ2 H2 R2 P2=>k σ2 H2 R2 (P1.s.after P2)
  | ct en2=>exact fun σ2 H2 R2 P2=>k σ2 H2 R2 (P1.s.after P2)
  | rt t en2=>exact fun v σ2 H2 R2 F P2 o=>k v σ2 H2 R2 F (P1.s.after P2) o
 cases b with
 | true=>exact fin m1 hf
 | false=>exact fin m2 hf
theorem PostS.store {F:AS} {v:V} (P:Post K p ds1 Ox σ H en R en1 H' R' F) (o:Ow K (Own R' (U F Ox)) H' t d v F) (hi:i < ds1.length) (hl:i ∉ lk) :
  PostS K lk (ds1.set i d) Ox σ H R (σ.set i (some v)) (en1.set i (some t)) H' (fun j=>if j=i then F else R' j) NoA:=by
 have l1:=P.env.l1
 have l2:=P.env.l2
 have sub:∀ a,Own (fun j=>if j=i then F else R' j) Ox a→Own R' (U F Ox) a:=fun a z=>by
  rcases z with ⟨j,z⟩ | z
  ·by_cases hj:j=i
   ·rw [if_pos hj] at z; exact .inr (.inl z)
   ·rw [if_neg hj] at z; exact .inl ⟨j,z⟩
  ·exact .inr (.inr z)
 refine ⟨?_,fun _ z=>z.elim,P.keep,fun a z=>?_,P.dom,fun j hj=>?_⟩
 ·rw [fu]
  refine ⟨fun j u hu=>?_,fun j j' a z z'=>?_,fun j a z z2=>?_,fun a z=>P.env.dom a (sub a z),by rw [List.length_set,List.length_set]; exact l1,by rw [List.length_set,List.length_set]; exact l2⟩
  ·by_cases hj:j=i
   ·subst hj
    rw [List.getElem?_set_self (by omega)] at hu
    cases hu
    refine ⟨v,d,List.getElem?_set_self (by omega),List.getElem?_set_self hi,?_⟩
    rw [if_pos rfl]
    exact Ow.grow sub t (fun _ z=>z) o
   ·rw [List.getElem?_set_ne (Ne.symm hj)] at hu
    obtain ⟨v',d',g1,g2,g3⟩:=P.env.at_ j u hu
    refine ⟨v',d',by rw [List.getElem?_set_ne (Ne.symm hj)]; exact g1,by rw [List.getElem?_set_ne (Ne.symm hj)]; exact g2,?_⟩
    rw [if_neg hj]
    exact Ow.grow sub u (fun _ z=>z) g3
  ·by_cases hj:j=i <;> by_cases hj':j'=i
   ·rw [hj,hj']
   ·rw [if_pos hj] at z; rw [if_neg hj'] at z'
    exact absurd (.inl z) (P.env.dx j' a z')
   ·rw [if_neg hj] at z; rw [if_pos hj'] at z'
    exact absurd (.inl z') (P.env.dx j a z)
   ·rw [if_neg hj] at z; rw [if_neg hj'] at z'
    exact P.env.dj j j' a z z'
  ·by_cases hj:j=i
   ·rw [if_pos hj] at z
    exact P.fx a z z2
   ·rw [if_neg hj] at z
    exact P.env.dx j a z (.inr z2)
 ·rcases z with z | ⟨j,z⟩
  ·exact z.elim
  ·by_cases hj:j=i
   ·rw [if_pos hj] at z; exact P.own a (.inl z)
   ·rw [if_neg hj] at z; exact P.own a (.inr ⟨j,z⟩)
 ·rw [List.getElem?_set_ne]
  intro z
  subst z
  exact hl hj
theorem rA (hi:i < ds1.length) (hl:i ∉ J.lk) (h:tFS K J ds (ds1.set i d) (aq i f) D σ H):mJ (tF K p ds ds1 d f) (kj i) D σ H:=by
 obtain ⟨Ox,en,R,fl,e,hf,k⟩:=h
 unfold aq at hf
 obtain ⟨⟨t,en1⟩,h1,hf⟩:=Option.map_eq_some_iff.mp hf
 cases hf
 exact ⟨Ox,en,R,t,en1,e,h1,fun v H1 R1 F P o=>k _ H1 _ (PostS.store P o hi hl)⟩
abbrev MG:=PyData→En→Option En
def tFG (K:PySem.W.Frag) (lk:List Nat) (ds ds':List Nat) (g:MG):TG:=fun v σ H Q =>
 ∃ Ox en R t en',EnvOk K ds Ox H σ en R∧Ow K (Own R Ox) H t 0 v NoA∧g t en=some en'∧∀ σ' R',PostS K lk ds' Ox σ H R σ' en' H R' NoA→(∀ j∈lk,R' j=R j)→Q σ' H
def eI (K:PySem.W.Frag) (lk:List Nat) (ds ds':List Nat) (g:List PyData→En→Option En):TGs:=fun vs σ H Q =>
 ∃ Ox en R ts en',EnvOk K ds Ox H σ en R∧Ows K (Own R Ox) H ts 0 vs NoA∧g ts en=some en'∧∀ σ' R',PostS K lk ds' Ox σ H R σ' en' H R' NoA→(∀ j∈lk,R' j=R j)→Q σ' H
def gN (i:Nat):MG:=fun t en=>some (en.set i (some t))
def gs0:List PyData→En→Option En:=fun ts en=>match ts with
 | []=>some en
 | _=>none
def gsC (g:MG) (r:List PyData→En→Option En):List PyData→En→Option En:=fun ts en=>match ts with
 | t :: ts=>(g t en).bind fun en1=>r ts en1
 | []=>none
def gT (g:List PyData→En→Option En):MG:=fun t en=>match t with
 | .tuple ts=>g ts en
 | _=>none
variable {g g1:MG} {gs:List PyData→En→Option En} {v:V} {vs:List V} {QS:St→Hp→Prop}
theorem Bn (hi:i < ds.length) (hl:i ∉ lk) (h:tFG K lk ds (ds.set i 0) (gN i) v σ H QS):kj i v σ H QS:=by
 obtain ⟨Ox,en,R,t,en',e,o,hf,k⟩:=h
 cases hf
 exact k _ _ (PostS.store (p:=true) (Post.refl e) (by rw [show (fun _=>False:AS)=NoA from rfl,fu]; exact o) hi hl) fun j hj=>if_neg (fun (z:j=i)=>hl (by rw [← z]; exact hj))
theorem Bk (h:eI K lk ds ds gs0 vs σ H QS):Ez vs σ H QS:=by
 obtain ⟨Ox,en,R,ts,en',e,o,hf,k⟩:=h
 cases ts with
 | nil=>cases hf; exact ⟨o,k σ R (PostS.refl e) fun _ _=>rfl⟩
 | cons t ts=>cases hf
theorem tN (h:eI K lk ds ds2 (gsC g gs) vs σ H QS):zQ (tFG K lk ds ds1 g) (eI K lk ds1 ds2 gs) vs σ H QS:=by
 obtain ⟨Ox,en,R,ts,en',e,o,hf,k⟩:=h
 cases ts with
 | nil=>cases hf
 | cons t ts =>
  obtain ⟨en1,h1,h2⟩:=Option.bind_eq_some_iff.mp hf
  obtain ⟨v,r,F1,F2,e1,s1,s2,s3,o1,o2⟩:=o
  refine ⟨v,r,e1,Ox,en,R,t,en1,e,Ow.any0 t o1,h1,fun σ1 R1 P1 r1=>?_⟩
  refine ⟨Ox,en1,R1,ts,en',P1.env0,Ows.any0 ts (Ows.mv (G:=NoA) ⟨fun a o q _=>q,fun a z=>?_⟩ ts (F:=NoA) (fun _ z=>z) (Ows.any0 ts o2)),h2,fun σ2 R2 P2 r2=>k σ2 R2 (P1.after P2) fun j hj=>(r2 j hj).trans (r1 j hj)⟩
  rcases z with z | z
  ·exact (P1.own a (.inr z)).imp .inl id
  ·exact .inl (.inr z)
theorem EW {n:Nat} (hn:∀ ts en,(∃ en',gs ts en=some en')→ts.length=n) (h:tFG K lk ds ds1 (gT gs) v σ H QS):Ex K n (eI K lk ds ds1 gs) v σ H QS:=by
 obtain ⟨Ox,en,R,t,en',e,o,hf,k⟩:=h
 cases t with
 | tuple ts =>
  have hf':gs ts en=some en':=hf
  obtain ⟨a,vs,e1,⟨_,h1,h2⟩ | ⟨z,_⟩⟩:=o
  ·refine ⟨a,vs,e1,h1.sq,?_,Ox,en,R,ts,en',e,h2,hf',k⟩
   rw [← hn ts en ⟨en',hf'⟩]
   have:∀ {ts:List PyData} {vs:List V} {F:AS},Ows K (Own R Ox) H ts 0 vs F→vs.length=ts.length:=fun {ts}=>by
    induction ts with
    | nil=>intro vs F h; rw [show vs=[] from h]; rfl
    | cons t ts ih =>
     intro vs F h
     obtain ⟨v,r,F1,F2,e,h1,h2,h3,h4,h5⟩:=h
     rw [e,List.length_cons,List.length_cons,ih h5]
   exact this h2
  ·exact absurd rfl z
 | _=>cases hf
abbrev MI:=En→Option (List PyData × En)
def jR (K:PySem.W.Frag) (O:AS) (H0:Hp) (J:It) (ts:List PyData):Prop :=
 ∀ (i:Nat) (H:Hp) (O1:AS),(∀ a o,H0 a=some o→¬ O a→H a=some o)→(∀ a,O1 a→O a∨H0 a=none)→(∀ a,O1 a→∃ o,H a=some o) →
  (∀ t,ts[i]?=some t→J.go i H∧∀ x H1,J.yld i H x H1→(∀ a o,H a=some o→H1 a=some o)∧Ow K O1 H1 t 0 x NoA)∧(ts.length=i→J.stop i H)
def tFI (K:PySem.W.Frag) (p:Bool) (ds ds':List Nat) (f:MI):TI:=fun σ H RJ =>
 ∃ Ox en R ts en',EnvOk K ds Ox H σ en R∧f en=some (ts,en')∧∀ J H' R',Post K p ds' Ox σ H en R en' H' R' NoA→jR K (Own R' Ox) H' J ts→RJ J H'
def cf (g:MG) (b:MS):List PyData→En→Option Fl
 | [],en=>some (.nx en)
 | t :: ts,en=>(g t en).bind fun en1=>(b en1).bind fun fl=>match fl with
  | .nx en2=>cf g b ts en2
  | .ct en2=>cf g b ts en2
  | .rt r en2=>some (.rt r en2)
def dk (fi:MI) (g:MG) (b:MS):MS:=fun en=>(fi en).bind fun r=>cf g b r.1 r.2
theorem EK {fi:MI} (h:tFS K J ds ds1 (dk fi g m) D σ H):DD (tFI K p ds ds1 fi) (tFG K J.lk ds1 ds2 g) (tFS K { J with dsl:=ds1 } ds2 ds1 m) D σ H:=by
 obtain ⟨Ox,en,R,fl,e,hf,k⟩:=h
 unfold dk at hf
 obtain ⟨⟨ts,en1⟩,h1,hf⟩:=Option.bind_eq_some_iff.mp hf
 refine ⟨Ox,en,R,ts,en1,e,h1,fun Jt H1 R1 P1 wk=>?_⟩
 refine ⟨fun i n σ' H'=>∃ en' R',n=ts.length - i∧i≤ts.length∧PostS K J.lk ds1 Ox σ H1 R1 σ' en' H' R' NoA∧cf g m (ts.drop i) en'=some fl,⟨_,en1,R1,rfl,Nat.zero_le _,PostS.refl P1.env0,hf⟩,?_⟩
 rintro i n σ2 H2 ⟨en2,R2,rfl,hi,P2,hr⟩
 obtain ⟨w1,w2⟩:=wk i H2 (Own R2 Ox) (fun a o q z=>P2.keep a o q fun j zj=>z (.inl ⟨j,zj⟩)) (fun a z=>by
  rcases z with z | z
  ·exact (P2.own a (.inr z)).imp .inl id
  ·exact .inl (.inr z)) fun a z=>P2.env0.dom a z
 by_cases hlt:i < ts.length
 ·obtain ⟨go,yl⟩:=w1 ts[i] (List.getElem?_eq_getElem hlt)
  have hd:ts.drop i=ts[i] :: ts.drop (i+1):=List.drop_eq_getElem_cons hlt
  rw [hd] at hr
  obtain ⟨en3,h3,hr⟩:=Option.bind_eq_some_iff.mp hr
  obtain ⟨fl2,h4,hr⟩:=Option.bind_eq_some_iff.mp hr
  refine .inr ⟨go,fun σ' H'=>∃ en' R',PostS K J.lk ds1 Ox σ H1 R1 σ' en' H' R' NoA∧cf g m (ts.drop (i+1)) en'=some fl,fun σ' H' ⟨en',R',P',h'⟩=>⟨ts.length - (i+1),by omega,en',R',rfl,hlt,P',h'⟩,fun x H3 y=>?_⟩
  obtain ⟨gr,ox⟩:=yl x H3 y
  have P3:Post K true ds1 Ox σ2 H2 en2 R2 en2 H3 R2 NoA:=Post.new P2.env0 gr fun _ z=>z.elim
  refine ⟨Ox,en2,R2,ts[i],en3,P3.env0,ox,h3,fun σ4 R4 P4 _=>?_⟩
  have P4':=(P2.after P3.s).after P4
  refine ⟨Ox,en3,R4,fl2,P4.env0,h4,?_⟩
  cases fl2 with
  | nx en5=>exact fun σ5 H5 R5 P5=>⟨en5,R5,P4'.after P5,hr⟩
  | ct en5=>exact fun σ5 H5 R5 P5=>⟨en5,R5,P4'.after P5,hr⟩
  | rt t en5 =>
   cases hr
   exact fun v σ5 H5 R5 F P5 o=>k v σ5 H5 R5 F (P1.s.after (P4'.after P5)) o
 ·have e2:i=ts.length:=by omega
  subst e2
  rw [List.drop_length] at hr
  cases hr
  exact .inl ⟨w2 rfl,k σ2 H2 R2 (P1.s.after P2)⟩
def whN (c:MT) (b:MS):Nat→En→Option Fl
 | 0,_=>none
 | n+1,en=>(c en).bind fun r=>if r.1 then (b r.2).bind fun fl=>match fl with
   | .nx en2=>whN c b n en2
   | .ct en2=>whN c b n en2
   | .rt t en2=>some (.rt t en2)
  else some (.nx r.2)
open Classical in
noncomputable def bG (c:MT) (b:MS):MS:=fun en=>if h:∃ n fl,whN c b n en=some fl then some h.choose_spec.choose else none
theorem fM {b:MS} {fl:Fl} (h:bG c b en=some fl):∃ n,whN c b n en=some fl:=by
 unfold bG at h
 split at h
 ·next q =>
  cases h
  exact ⟨q.choose,q.choose_spec.choose_spec⟩
 ·cases h
theorem tz (h:tFS K J ds ds1 (bG c m) D σ H):qA (tFT K p ds ds1 c) (tFS K { J with dsl:=ds } ds1 ds m) D σ H:=by
 obtain ⟨Ox,en,R,fl,e,hf,k⟩:=h
 obtain ⟨n0,hn⟩:=fM hf
 refine ⟨fun n σ' H'=>∃ en' R',PostS K J.lk ds Ox σ H R σ' en' H' R' NoA∧whN c m n en'=some fl,⟨n0,en,R,PostS.refl e,hn⟩,?_⟩
 rintro n σ2 H2 ⟨en2,R2,P2,hr⟩
 cases n with
 | zero=>cases hr
 | succ n =>
  unfold whN at hr
  obtain ⟨⟨b,en3⟩,h3,hr⟩:=Option.bind_eq_some_iff.mp hr
  refine ⟨Ox,en2,R2,b,en3,P2.env0,h3,fun H3 R3 P3=>?_⟩
  cases b with
  | false =>
   cases hr
   rw [if_neg Bool.false_ne_true]
   exact k σ2 H3 R3 (P2.after P3.s)
  | true =>
   rw [if_pos rfl] at hr ⊢
   obtain ⟨fl2,h4,hr⟩:=Option.bind_eq_some_iff.mp hr
   refine ⟨fun σ' H'=>∃ en' R',PostS K J.lk ds Ox σ H R σ' en' H' R' NoA∧whN c m n en'=some fl,fun σ' H' q=>⟨n,Nat.lt_succ_self _,q⟩,Ox,en3,R3,fl2,P3.env0,h4,?_⟩
   have P3':=P2.after (P3.s (lk:=J.lk))
   cases fl2 with
   | nx en5=>exact fun σ5 H5 R5 P5=>⟨en5,R5,P3'.after P5,hr⟩
   | ct en5=>exact fun σ5 H5 R5 P5=>⟨en5,R5,P3'.after P5,hr⟩
   | rt t en5 =>
    cases hr
    exact fun v σ5 H5 R5 F P5 o=>k v σ5 H5 R5 F (P3'.after P5) o
end
end L2
namespace L2
open PySem PySem.Spec PyProof.Rows
def lcF (g:MG) (c:MT) (f:ME):List D→List D→En→Option (List D × En)
 | [],acc,en=>some (acc,en)
 | t :: ts,acc,en=>(g t en).bind fun en1=>(c en1).bind fun r=>if r.1 then (f r.2).bind fun q=>if acc.length < sizeLine then lcF g c f ts (acc++[q.1]) q.2 else none else lcF g c f ts acc r.2
def bU (js:List (Option Nat)) (en:En):En:=js.map fun j=>match j with
 | some j=>(en[j]?).join
 | none=>none
def wbB:List (Option Nat)→En→En→En
 | some j :: js,o :: r,en=>wbB js r (en.set j o)
 | none :: js,_ :: r,en=>wbB js r en
 | _,_,en=>en
def eLC (q:Bool) (fi:MI) (g:MG) (c:MT) (f:ME) (js:List (Option Nat)):ME:=fun en=>(fi en).bind fun r=>(lcF g c f r.1 [] (bU js r.2)).map fun z=>(.list z.1,if q then r.2 else wbB js z.2 r.2)
def fV (ds:List Nat):List (Option Nat)→List Nat→Bool
 | [],[]=>true
 | some j :: js,d :: r=>decide (ds[j]?=some d) && (decide (some j ∉ js) && fV ds js r)
 | none :: js,_ :: r=>fV ds js r
 | _,_=>false
section
variable {K:PySem.W.Frag} {p p1 p2 q:Bool} {lk:List Nat} {ds ds0 ds1 ds2 ds' dsi:List Nat} {Ox Ox' O O':AS} {H H':Hp} {σ σ':St} {en en' en1 en2:En} {R R':Nat→AS} {d d' d1 d2 dr:Nat} {t t1 t2:D} {Q:VK} {f f1 f2:ME} {c:MT} {g:MG} {fi:MI} {i:Nat} {js:List (Option Nat)}
theorem jP:∀ {js:List (Option Nat)} {dsi:List Nat},fV ds js dsi=true→dsi.length=js.length∧(∀ (k j:Nat),js[k]?=some (some j)→∃ d,dsi[k]?=some d∧ds[j]?=some d)∧(∀ (k k' j:Nat),js[k]?=some (some j)→js[k']?=some (some j)→k=k')
 | [],[],_=>⟨rfl,fun k j z=>by simp at z,fun k k' j z=>by simp at z⟩
 | some j0 :: js,d :: r,h=>by
  unfold fV at h
  rw [Bool.and_eq_true,Bool.and_eq_true] at h
  obtain ⟨h1,h2,h3⟩:=h
  obtain ⟨a,b,c⟩:=jP h3
  have n:=of_decide_eq_true h2
  refine ⟨by rw [List.length_cons,List.length_cons,a],fun k j z=>?_,fun k k' j z z'=>?_⟩
  ·cases k with
   | zero=>simp at z; subst z; exact ⟨d,rfl,of_decide_eq_true h1⟩
   | succ k=>exact b k j (by simpa using z)
  ·cases k with
   | zero =>
    simp at z
    subst z
    cases k' with
    | zero=>rfl
    | succ k'=>exact absurd (List.mem_of_getElem? (by simpa using z':js[k']?=some (some j0))) n
   | succ k =>
    cases k' with
    | zero =>
     simp at z'
     subst z'
     exact absurd (List.mem_of_getElem? (by simpa using z:js[k]?=some (some j0))) n
    | succ k'=>rw [c k k' j (by simpa using z) (by simpa using z')]
 | none :: js,d :: r,h=>by
  unfold fV at h
  obtain ⟨a,b,c⟩:=jP h
  refine ⟨by rw [List.length_cons,List.length_cons,a],fun k j z=>?_,fun k k' j z z'=>?_⟩
  ·cases k with
   | zero=>simp at z
   | succ k=>exact b k j (by simpa using z)
  ·cases k with
   | zero=>simp at z
   | succ k =>
    cases k' with
    | zero=>simp at z'
    | succ k'=>rw [c k k' j (by simpa using z) (by simpa using z')]
 | [],_ :: _,h=>nomatch h
 | some _ :: _,[],h=>nomatch h
 | none :: _,[],h=>nomatch h
theorem kO:∀ (js:List (Option Nat)) (r en:En),(wbB js r en).length=en.length
 | [],_,_=>by unfold wbB; rfl
 | some _ :: _,[],_=>by unfold wbB; rfl
 | none :: _,[],_=>by unfold wbB; rfl
 | some j :: js,o :: r,en=>by unfold wbB; rw [kO js r _,List.length_set]
 | none :: js,o :: r,en=>by unfold wbB; exact kO js r _
theorem iW:∀ (js:List (Option Nat)) (r en:En) (i:Nat),(∀ k:Nat,js[k]?≠some (some i))→(wbB js r en)[i]?=en[i]?
 | [],_,_,_,_=>by unfold wbB; rfl
 | some _ :: _,[],_,_,_=>by unfold wbB; rfl
 | none :: _,[],_,_,_=>by unfold wbB; rfl
 | none :: js,o :: r,en,i,h=>by unfold wbB; exact iW js r en i fun j=>h (j+1)
 | some k :: js,o :: r,en,i,h=>by
  unfold wbB
  rw [iW js r _ i fun j=>h (j+1),List.getElem?_set_ne]
  intro e
  subst e
  exact h 0 rfl
theorem mE:∀ (js:List (Option Nat)) (r en:En) (i k:Nat),js[k]?=some (some i)→(∀ k':Nat,js[k']?=some (some i)→k'=k)→r.length=js.length→i < en.length→(wbB js r en)[i]?=r[k]?
 | [],_,_,_,_,h,_,_,_=>by simp at h
 | some _ :: js,[],_,_,_,_,_,h,_=>by simp at h
 | none :: js,[],_,_,_,_,_,h,_=>by simp at h
 | none :: js,o :: r,en,i,k,h,u,l,b=>by
  unfold wbB
  cases k with
  | zero=>simp at h
  | succ k=>exact mE js r en i k (by simpa using h) (fun j' z=>by have:=u (j'+1) (by simpa using z); omega) (by simpa using l) b
 | some j :: js,o :: r,en,i,k,h,u,l,b=>by
  unfold wbB
  cases k with
  | zero =>
   have e:j=i:=by simpa using h
   subst e
   rw [iW js r _ j fun j' z=>by have:=u (j'+1) (by simpa using z); omega]
   rw [List.getElem?_set_self b]
   rfl
  | succ k=>exact mE js r _ i k (by simpa using h) (fun j' z=>by have:=u (j'+1) (by simpa using z); omega) (by simpa using l) (by rw [List.length_set]; exact b)
theorem Ows.snoc:∀ {ts:List D} {vs:List V} {F1 F2:AS} {v:V},Ows K O H ts d vs F1→Ow K O H t d v F2→(∀ b,F1 b→¬ F2 b)→Ows K O H (ts++[t]) d (vs++[v]) (U F1 F2)
 | [],vs,F1,F2,v,h,h2,_=>by
  have e:vs=[]:=h
  subst e
  exact ⟨v,[],F2,NoA,rfl,fun _ z=>.inr z,fun _ z=>z.elim,fun _ _ z=>z.elim,h2,rfl⟩
 | u :: ts,vs,F1,F2,v,h,h2,hd=>by
  obtain ⟨w,r,G1,G2,e,s1,s2,s3,h4,h5⟩:=h
  subst e
  refine ⟨w,r++[v],G1,U G2 F2,rfl,fun b z=>.inl (s1 b z),fun b z=>z.imp (s2 b) id,fun b z z2=>?_,h4,Ows.snoc h5 h2 fun b z=>hd b (s2 b z)⟩
  rcases z2 with z2 | z2
  ·exact s3 b z z2
  ·exact hd b (s1 b z) z2
theorem Ows.len:∀ {ts:List D} {vs:List V} {F:AS},Ows K O H ts d vs F→vs.length=ts.length
 | [],_,_,h=>by rw [show _=[] from h]; rfl
 | t :: ts,_,_,h=>by
  obtain ⟨v,r,F1,F2,e,h1,h2,h3,h4,h5⟩:=h
  rw [e,List.length_cons,List.length_cons,h5.len]
def fU:List (Option Nat)→Nat→List Nat
 | [],_=>[]
 | some _ :: r,n=>n :: fU r (n+1)
 | none :: r,n=>fU r (n+1)
theorem gH:∀ {js:List (Option Nat)} {n k j:Nat},js[k]?=some (some j)→n+k∈fU js n
 | [],n,k,j,h=>by simp at h
 | some x :: r,n,k,j,h=>by
  unfold fU
  cases k with
  | zero=>exact List.mem_cons_self
  | succ k =>
   refine List.mem_cons_of_mem _ ?_
   have:=gH (n:=n+1) (k:=k) (j:=j) (by simpa using h)
   rw [show n+(k+1)=n+1+k by omega]
   exact this
 | none :: r,n,k,j,h=>by
  unfold fU
  cases k with
  | zero=>simp at h
  | succ k =>
   have:=gH (n:=n+1) (k:=k) (j:=j) (by simpa using h)
   rw [show n+(k+1)=n+1+k by omega]
   exact this
def nE (js:List (Option Nat)) (R1:Nat→AS):Nat→AS:=fun k=>match js[k]? with
 | some (some j)=>R1 j
 | _=>NoA
theorem BB {R1:Nat→AS} {k j:Nat} (h:js[k]?=some (some j)):nE js R1 k=R1 j:=by unfold nE; rw [h]
theorem BA {R1:Nat→AS} {k:Nat} {a:Addr} (h:nE js R1 k a):∃ j,js[k]?=some (some j)∧R1 j a:=by
 unfold nE at h
 cases q:js[k]? with
 | none=>rw [q] at h; exact h.elim
 | some o =>
  rw [q] at h
  cases o with
  | none=>exact h.elim
  | some j=>exact ⟨j,rfl,h⟩
theorem Fj {cd:Nat} (hc:fV ds1 js dsi=true) (hd:dn d=cd) (hz:d≠0) (hl:lk=fU js 0) (h:tF K (p && q) ds ds1 d (eLC q fi g c f js) σ H Q) :
  tLC (tFI K p ds ds1 fi) (tFG K lk dsi dsi g) (tFT K q dsi dsi c) (tF K q dsi dsi cd f) js σ H Q:=by
 obtain ⟨Ox,en,R,t,en',e,hf,k⟩:=h
 unfold eLC at hf
 obtain ⟨⟨ts,en1⟩,h1,hf⟩:=Option.bind_eq_some_iff.mp hf
 obtain ⟨⟨fin,enf⟩,h2,hf⟩:=Option.map_eq_some_iff.mp hf
 cases hf
 obtain ⟨cl,c1,c2⟩:=jP hc
 refine ⟨Ox,en,R,ts,en1,e,h1,fun J H1 R1 P1 wk D hD=>?_⟩
 have E1:=P1.env0
 generalize hRI:nE js R1=RI
 have ri1:∀ k j:Nat,js[k]?=some (some j)→RI k=R1 j:=fun k j z=>by rw [← hRI]; exact BB z
 have ric:∀ (k:Nat) a,RI k a→∃ j,js[k]?=some (some j)∧R1 j a:=fun k a z=>by rw [← hRI] at z; exact BA z
 let OxI:AS:=fun a=>Ox a∨a=D∨∃ i,R1 i a∧∀ k:Nat,js[k]?≠some (some i)
 have nD:∀ a,Own R1 Ox a→a≠D:=fun a z z2=>by
  subst z2
  obtain ⟨o,q⟩:=E1.dom a z
  rw [hD] at q
  cases q
 have lI:(bU js en1).length=js.length:=by unfold bU; rw [List.length_map]
 have lS:(dg js σ).length=js.length:=by unfold dg; rw [List.length_map]
 have getE:∀ (k:Nat) t,(bU js en1)[k]?=some (some t)→∃ j,js[k]?=some (some j)∧en1[j]?=some (some t):=fun k t z=>by
  unfold bU at z
  rw [List.getElem?_map] at z
  obtain ⟨oj,h1,h2⟩:=Option.map_eq_some_iff.mp z
  cases oj with
  | none=>cases h2
  | some j =>
   refine ⟨j,h1,?_⟩
   have h2':(en1[j]?).join=some t:=h2
   cases q:en1[j]? with
   | none=>rw [q] at h2'; cases h2'
   | some o=>rw [q] at h2'; exact congrArg some h2'
 have getS:∀ (k j:Nat) v,js[k]?=some (some j)→σ[j]?=some (some v)→(dg js σ)[k]?=some (some v):=fun k j v z1 z2=>by
  unfold dg
  rw [List.getElem?_map,z1]
  show some ((σ[j]?).join)=_
  rw [z2]
  rfl
 have u2:∀ a o,H1 a=some o→upd H1 D (.lst []) a=some o:=fun a o q=>(bL (o:=.lst []) hD).1 a o q
 have EI:EnvOk K dsi OxI (upd H1 D (.lst [])) (dg js σ) (bU js en1) RI:=by
  refine ⟨fun k t hk=>?_,fun k k' a z z'=>?_,fun k a z z2=>?_,fun a z=>?_,by rw [lI,lS],by rw [cl,lS]⟩
  ·obtain ⟨j,hj,ht⟩:=getE k t hk
   obtain ⟨v,d,g1,g2,g3⟩:=E1.at_ j t ht
   obtain ⟨d',q1,q2⟩:=c1 k j hj
   rw [g2] at q2
   cases q2
   refine ⟨v,d,getS k j v hj g1,q1,?_⟩
   rw [ri1 k j hj]
   refine Ow.mv (G:=R1 j) ⟨fun a o q _=>u2 a o q,fun a z=>?_⟩ t (fun _ z=>z) g3
   rcases z with ⟨k',z⟩ | z | z | ⟨i,z,_⟩
   ·obtain ⟨j',_,z⟩:=ric k' a z
    exact .inl (.inl ⟨j',z⟩)
   ·exact .inl (.inr z)
   ·exact .inr (z ▸ hD)
   ·exact .inl (.inl ⟨i,z⟩)
  ·obtain ⟨j,hj,z⟩:=ric k a z
   obtain ⟨j',hj',z'⟩:=ric k' a z'
   have:=E1.dj j j' a z z'
   subst this
   exact c2 k k' j hj hj'
  ·obtain ⟨j,hj,z⟩:=ric k a z
   rcases z2 with z2 | z2 | ⟨i,z2,n⟩
   ·exact E1.dx j a z z2
   ·exact nD a (.inl ⟨j,z⟩) z2
   ·have:=E1.dj j i a z z2
    subst this
    exact n k hj
  ·rcases z with ⟨k,z⟩ | z | z | ⟨i,z,_⟩
   ·obtain ⟨j,hj,z⟩:=ric k a z
    obtain ⟨o,q⟩:=E1.dom a (.inl ⟨j,z⟩)
    exact ⟨o,u2 a o q⟩
   ·obtain ⟨o,q⟩:=E1.dom a (.inr z)
    exact ⟨o,u2 a o q⟩
   ·subst z
    exact ⟨_,aJ⟩
   ·obtain ⟨o,q⟩:=E1.dom a (.inl ⟨i,z⟩)
    exact ⟨o,u2 a o q⟩
 refine ⟨fun i n τ H'=>∃ eni RI' acc vs Fa,n=ts.length - i∧i≤ts.length∧PostS K lk dsi OxI (dg js σ) H1 RI τ eni H' RI' Fa∧H' D=some (.lst vs)∧Ows K (Own RI' (U Fa OxI)) H' acc cd vs Fa∧lcF g c f (ts.drop i) acc eni=some (fin,enf) ∧
   (q=true→(∀ k j:Nat,js[k]?=some (some j)→RI' k=RI k)∧(∀ a o,H1 a=some o→H' a=some o)),
  ⟨_,bU js en1,RI,[],[],NoA,rfl,Nat.zero_le _,⟨by rw [fu]; exact EI,fun _ z=>z.elim,fun a o q _=>u2 a o q,fun a z=>z.elim (fun z=>z.elim) .inl,fun a o q=>⟨o,u2 a o q⟩,fun _ _=>rfl⟩,aJ,rfl,h2,fun _=>⟨fun _ _ _=>rfl,u2⟩⟩,?_⟩
 rintro i n τ H2 ⟨eni,RI2,acc,vs,Fa,rfl,hi,P2,hDl,oacc,hr,pu⟩
 have gA:∀ a,Own RI2 (U Fa OxI) a→Own R1 Ox a∨H1 a=none:=fun a z=>by
  rcases z with z | z | z | z | ⟨i,z,_⟩
  ·rcases P2.own a (.inr z) with ⟨k,z⟩ | z
   ·obtain ⟨j,_,z⟩:=ric k a z
    exact .inl (.inl ⟨j,z⟩)
   ·exact .inr z
  ·rcases P2.own a (.inl z) with ⟨k,z⟩ | z
   ·obtain ⟨j,_,z⟩:=ric k a z
    exact .inl (.inl ⟨j,z⟩)
   ·exact .inr z
  ·exact .inl (.inr z)
  ·exact .inr (z ▸ hD)
  ·exact .inl (.inl ⟨i,z⟩)
 obtain ⟨w1,w2⟩:=wk i H2 (Own RI2 (U Fa OxI)) (fun a o q z=>P2.keep a o q fun k zk=>by
  obtain ⟨j,_,zj⟩:=ric k a zk
  exact z (.inl ⟨j,zj⟩)) gA fun a z=>P2.env.dom a z
 have DO:OxI D:=.inr (.inl rfl)
 by_cases hlt:i < ts.length
 ·obtain ⟨go,yl⟩:=w1 ts[i] (List.getElem?_eq_getElem hlt)
  rw [List.drop_eq_getElem_cons hlt] at hr
  obtain ⟨en3,h3,hr⟩:=Option.bind_eq_some_iff.mp hr
  obtain ⟨⟨b,en4⟩,h4,hr⟩:=Option.bind_eq_some_iff.mp hr
  refine .inr ⟨go,fun τ' H'=>∃ eni RI' acc vs Fa,PostS K lk dsi OxI (dg js σ) H1 RI τ' eni H' RI' Fa∧H' D=some (.lst vs)∧Ows K (Own RI' (U Fa OxI)) H' acc cd vs Fa∧lcF g c f (ts.drop (i+1)) acc eni=some (fin,enf)∧(q=true→(∀ k j:Nat,js[k]?=some (some j)→RI' k=RI k)∧(∀ a o,H1 a=some o→H' a=some o)),
   fun τ' H' ⟨eni,RI',acc,vs,Fa,P',x1,x2,x3,x4⟩=>⟨_,by omega,eni,RI',acc,vs,Fa,rfl,hlt,P',x1,x2,x3,x4⟩,fun x H3 y=>?_⟩
  obtain ⟨gr,ox⟩:=yl x H3 y
  have P3:Post K true dsi (U Fa OxI) τ H2 eni RI2 eni H3 RI2 NoA:=Post.new P2.env gr fun _ z=>z.elim
  have chain:∀ {τ5 en5 H5 RI5 F5},PostS K lk dsi (U Fa OxI) τ H2 RI2 τ5 en5 H5 RI5 F5→PostS K lk dsi OxI (dg js σ) H1 RI τ5 en5 H5 RI5 (U Fa F5):=fun {τ5 en5 H5 RI5 F5} P5=>by
   have n1:∀ a,H2 a=none→H1 a=none:=fun a z=>by
    cases q:H1 a with
    | none=>rfl
    | some o =>
     obtain ⟨o',q'⟩:=P2.dom a o q
     rw [z] at q'
     cases q'
   refine ⟨kA ▸ P5.env,fun a z z2=>?_,fun a o q n=>?_,fun a z=>?_,fun a o q=>?_,fun j hj=>(P5.lk j hj).trans (P2.lk j hj)⟩
   ·rcases z with z | z
    ·exact P2.fx a z z2
    ·exact P5.fx a z (.inr z2)
   ·refine P5.keep a o (P2.keep a o q n) fun i z=>?_
    rcases P2.own a (.inr ⟨i,z⟩) with ⟨j,z⟩ | z
    ·exact n j z
    ·rw [q] at z; cases z
   ·rcases z with (z | z) | z
    ·exact P2.own a (.inl z)
    ·rcases P5.own a (.inl z) with z | z
     ·exact P2.own a (.inr z)
     ·exact .inr (n1 a z)
    ·rcases P5.own a (.inr z) with z | z
     ·exact P2.own a (.inr z)
     ·exact .inr (n1 a z)
   ·obtain ⟨o',q'⟩:=P2.dom a o q
    exact P5.dom a o' q'
  have carry:∀ {τ5 en5 H5 RI5 F5},PostS K lk dsi (U Fa OxI) τ H2 RI2 τ5 en5 H5 RI5 F5→Ows K (Own RI5 (U (U Fa F5) OxI)) H5 acc cd vs Fa:=fun {τ5 en5 H5 RI5 F5} P5=>by
   refine Ows.mv (G:=Fa) ⟨fun a o q z=>P5.keep a o q fun i zi=>?_,fun a z=>?_⟩ acc (fun _ z=>z) oacc
   ·rcases z with z | z
    ·exact z (.inl ⟨i,zi⟩)
    ·exact P2.env.dx i a zi (.inl z)
   ·rcases z with z | (z | z) | z
    ·exact (P5.own a (.inr z)).imp .inl id
    ·exact .inl (.inr (.inl z))
    ·exact (P5.own a (.inl z)).imp .inl id
    ·exact .inl (.inr (.inr z))
  have UFN:U Fa NoA=Fa:=eh fun a=>⟨fun z=>z.elim id fun z=>z.elim,.inl⟩
  refine ⟨U Fa OxI,eni,RI2,ts[i],en3,P3.env0,ox,h3,fun τ4 R4 P4 r4=>?_⟩
  have P4':=(P3.s (lk:=lk)).after P4
  refine ⟨U Fa OxI,en3,R4,b,en4,P4.env0,h4,fun H5 R5 P5=>?_⟩
  have P5':=P4'.after (P5.s (lk:=lk))
  have pu5:q=true→(∀ k j:Nat,js[k]?=some (some j)→R5 k=RI k)∧(∀ a o,H1 a=some o→H5 a=some o):=fun hq=>by
   obtain ⟨_,b2,b3⟩:=P5.pure hq
   obtain ⟨e1,e2⟩:=pu hq
   refine ⟨fun k j z=>?_,fun a o qq=>b3 a o (gr a o (e2 a o qq))⟩
   rw [b2,r4 k (by rw [hl]; have:=gH (n:=0) z; rw [Nat.zero_add] at this; exact this)]
   exact e1 k j z
  cases b with
  | false =>
   dsimp only
   rw [if_neg Bool.false_ne_true]
   have c5:=chain P5'
   have o5:=carry P5'
   rw [UFN] at c5 o5
   exact ⟨en4,R5,acc,vs,Fa,c5,P5'.keep D _ hDl fun k z=>P2.env.dx k D z (.inr DO),o5,hr,pu5⟩
  | true =>
   dsimp only
   rw [if_pos rfl]
   obtain ⟨⟨t6,en6⟩,h6,hr⟩:=Option.bind_eq_some_iff.mp (show ((f en4).bind fun q=>if acc.length < sizeLine then lcF g c f (ts.drop (i+1)) (acc++[q.1]) q.2 else none)=some (fin,enf) from hr)
   refine ⟨U Fa OxI,en4,R5,t6,en6,P5.env0,h6,fun v H6 R6 F6 P6 o6=>?_⟩
   have P6':=P5'.after (P6.s (lk:=lk))
   by_cases hlen:acc.length < sizeLine
   case neg=>rw [if_neg hlen] at hr; cases hr
   rw [if_pos hlen] at hr
   have hD6:=P6'.keep D _ hDl fun k z=>P2.env.dx k D z (.inr DO)
   refine ⟨vs,hD6,by rw [oacc.len]; exact hlen,en6,R6,acc++[t6],vs++[v],U Fa F6,?_,aJ,?_,hr,?_⟩
   ·have c6:=chain P6'
    have keepD:∀ a o,H6 a=some o→a≠D→upd H6 D (.lst (vs++[v])) a=some o:=fun a o q n=>by rw [aF n]; exact q
    refine ⟨⟨fun k t hk=>?_,c6.env.dj,c6.env.dx,fun a z=>?_,c6.env.l1,c6.env.l2⟩,c6.fx,fun a o q n=>?_,c6.own,fun a o q=>?_,c6.lk⟩
    ·obtain ⟨v',d',g1,g2,g3⟩:=c6.env.at_ k t hk
     refine ⟨v',d',g1,g2,Ow.mv (G:=R6 k) ⟨fun a o q z=>keepD a o q fun zD=>?_,fun a z=>.inl z⟩ t (fun _ z=>z) g3⟩
     subst zD
     rcases z with z | z
     ·exact z (.inr (.inr DO))
     ·exact c6.env.dx k a z (.inr DO)
    ·by_cases ha:a=D
     ·subst ha; exact ⟨_,aJ⟩
     ·obtain ⟨o,q⟩:=c6.env.dom a z
      exact ⟨o,keepD a o q ha⟩
    ·refine keepD a o (c6.keep a o q n) fun zD=>?_
     subst zD
     rw [hD] at q
     cases q
    ·obtain ⟨o',q'⟩:=c6.dom a o q
     by_cases ha:a=D
     ·subst ha; exact ⟨_,aJ⟩
     ·exact ⟨o',keepD a o' q' ha⟩
   ·have o1:=carry P6'
    have o2:Ow K (Own R6 (U (U Fa F6) OxI)) H6 t6 cd v F6:=kA ▸ o6
    have:=Ows.snoc o1 o2 fun b z1 z2=>P6.fx b z2 (.inl z1)
    refine Ows.mv (G:=U Fa F6) ⟨fun a o q z=>?_,fun a z=>.inl z⟩ _ (fun _ z=>z) this
    rw [aF]
    ·exact q
    ·intro zD
     subst zD
     rcases z with z | z | z
     ·exact z (.inr (.inr DO))
     ·exact P2.fx a z DO
     ·exact P6.fx a z (.inr DO)
   ·intro hq
    obtain ⟨_,b2,b3⟩:=P6.pure hq
    obtain ⟨e1,e2⟩:=pu5 hq
    refine ⟨fun k j z=>by rw [b2]; exact e1 k j z,fun a o qq=>?_⟩
    rw [aF]
    ·exact b3 a o (e2 a o qq)
    ·intro zD
     subst zD
     rw [hD] at qq
     cases qq
 ·have e2:i=ts.length:=by omega
  subst e2
  rw [List.drop_length] at hr
  obtain ⟨e3,e4⟩:acc=fin∧eni=enf:=by cases hr; exact ⟨rfl,rfl⟩
  subst e3 e4
  refine .inl ⟨w2 rfl,?_⟩
  have fD:∀ a,Fa a→a≠D:=fun a z z2=>by
   subst z2
   exact P2.fx a z DO
  cases hq:q with
  | true =>
   obtain ⟨e1,e2⟩:=pu hq
   subst hq
   have fn:∀ a,Fa a→H1 a=none:=fun a z=>by
    rcases P2.own a (.inl z) with ⟨k,z2⟩ | z2
    ·obtain ⟨j,hj,z3⟩:=ric k a z2
     rw [← e1 k j hj] at z2
     exact absurd (.inl z) (P2.env.dx k a z2)
    ·exact z2
   have nt:NewTo H1 H2 (fun a=>a=D∨Fa a):=⟨e2,fun a z=>by
    rcases z with z | z
    ·subst z
     exact ⟨hD,_,hDl⟩
    ·exact ⟨fn a z,P2.env.dom a (.inr (.inl z))⟩⟩
   have PF:=P1.fin nt
   rw [Bool.and_true] at k
   refine k (.ref D) H2 R1 _ PF ⟨D,vs,rfl,.inr ⟨hz,hDl,.inl rfl,Fa,fun b z=>⟨.inr z,fD b z⟩,?_⟩⟩
   rw [hd]
   refine Ows.grow (fun a z=>?_) _ (fun _ z=>z) oacc
   rcases z with ⟨i,z⟩ | (z | z) | z
   ·by_cases hc2:∃ kk:Nat,js[kk]?=some (some i)
    ·obtain ⟨kk,hk⟩:=hc2
     refine .inl ⟨kk,?_⟩
     rw [e1 kk i hk,ri1 kk i hk]
     exact z
    ·exact .inr (.inr (.inr (.inr ⟨i,z,fun kk hk=>hc2 ⟨kk,hk⟩⟩)))
   ·exact .inr (.inr (z ▸ DO))
   ·exact .inr (.inl z)
   ·exact .inr (.inr (.inl z))
  | false =>
   subst hq
   rw [Bool.and_false] at k
   classical
   let R3:Nat→AS:=fun i=>if hh:∃ kk:Nat,js[kk]?=some (some i) then RI2 hh.choose else R1 i
   have r31:∀ (i kk:Nat),js[kk]?=some (some i)→R3 i=RI2 kk:=fun i kk z=>by
    have hh:∃ kk:Nat,js[kk]?=some (some i):=⟨kk,z⟩
    have:hh.choose=kk:=c2 _ _ i hh.choose_spec z
    show (if hh:∃ kk:Nat,js[kk]?=some (some i) then RI2 hh.choose else R1 i)=RI2 kk
    rw [dif_pos hh,this]
   have r32:∀ i:Nat,(∀ kk:Nat,js[kk]?≠some (some i))→R3 i=R1 i:=fun i z=>by
    show (if hh:∃ kk:Nat,js[kk]?=some (some i) then RI2 hh.choose else R1 i)=R1 i
    rw [dif_neg fun ⟨j,q⟩=>z j q]
   have r3c:∀ (i:Nat) a,R3 i a→(∃ kk:Nat,js[kk]?=some (some i)∧RI2 kk a)∨((∀ kk:Nat,js[kk]?≠some (some i))∧R1 i a):=fun i a z=>by
    by_cases hh:∃ kk:Nat,js[kk]?=some (some i)
    ·obtain ⟨kk,hk⟩:=hh
     rw [r31 i kk hk] at z
     exact .inl ⟨kk,hk,z⟩
    ·rw [r32 i fun j z=>hh ⟨j,z⟩] at z
     exact .inr ⟨fun j z=>hh ⟨j,z⟩,z⟩
   have sub3:∀ a,Own R3 (U (fun a=>a=D∨Fa a) Ox) a→Own RI2 (U Fa OxI) a:=fun a z=>by
    rcases z with ⟨i,z⟩ | (z | z) | z
    ·rcases r3c i a z with ⟨j,_,z⟩ | ⟨n,z⟩
     ·exact .inl ⟨j,z⟩
     ·exact .inr (.inr (.inr (.inr ⟨i,z,n⟩)))
    ·exact .inr (.inr (z ▸ DO))
    ·exact .inr (.inl z)
    ·exact .inr (.inr (.inl z))
   have el:eni.length=js.length:=by rw [P2.env.l1,← P2.env.l2]; exact cl
   have riO:∀ (kk:Nat) a,RI kk a→Own R1 Ox a:=fun kk a z=>by
    obtain ⟨j,_,z⟩:=ric kk a z
    exact .inl ⟨j,z⟩
   have env3:EnvOk K ds1 (U (fun a=>a=D∨Fa a) Ox) H2 σ (wbB js eni en1) R3:=by
    refine ⟨fun i u hu=>?_,fun i i' a z z'=>?_,fun i a z z2=>?_,fun a z=>P2.env.dom a (sub3 a z),by rw [kO]; exact E1.l1,E1.l2⟩
    ·by_cases hh:∃ kk:Nat,js[kk]?=some (some i)
     ·obtain ⟨kk,hk⟩:=hh
      obtain ⟨dd,q1,q2⟩:=c1 kk i hk
      have hil:i < en1.length:=by rw [E1.l1,← E1.l2]; exact (List.getElem?_eq_some_iff.mp q2).1
      rw [mE js eni en1 i kk hk (fun k' z=>c2 k' kk i z hk) el hil] at hu
      obtain ⟨v,d',g1,g2,g3⟩:=P2.env.at_ kk u hu
      rw [q1] at g2
      cases g2
      have hlk:=P2.lk kk (by rw [hl]; have:=gH (n:=0) hk; rw [Nat.zero_add] at this; exact this)
      rw [hlk] at g1
      refine ⟨v,dd,?_,q2,?_⟩
      ·unfold dg at g1
       rw [List.getElem?_map,hk] at g1
       have g1':(σ[i]?).join=some v:=Option.some.inj g1
       cases q3:σ[i]? with
       | none=>rw [q3] at g1'; cases g1'
       | some o=>rw [q3] at g1'; exact congrArg some g1'
      ·rw [r31 i kk hk]
       exact Ow.grow sub3 u (fun _ z=>z) g3
     ·rw [iW js eni en1 i fun j z=>hh ⟨j,z⟩] at hu
      have ns:∀ j:Nat,js[j]?≠some (some i):=fun j z=>hh ⟨j,z⟩
      obtain ⟨v,d',g1,g2,g3⟩:=E1.at_ i u hu
      refine ⟨v,d',g1,g2,?_⟩
      rw [r32 i ns]
      refine Ow.mv (G:=R1 i) ⟨fun a o q z=>P2.keep a o q fun j zj=>?_,fun a z=>gA a (sub3 a z)⟩ u (fun _ z=>z) g3
      obtain ⟨j',hj',zj⟩:=ric j a zj
      rcases z with z | z
      ·exact z (.inl ⟨j',zj⟩)
      ·have:=E1.dj i j' a z zj
       subst this
       exact ns j hj'
    ·rcases r3c i a z with ⟨j,q,z⟩ | ⟨n,z⟩ <;> rcases r3c i' a z' with ⟨j',q',z'⟩ | ⟨n',z'⟩
     ·have:=P2.env.dj j j' a z z'
      subst this
      rw [q] at q'
      cases q'
      rfl
     ·exact absurd (.inr (.inr (.inr ⟨i',z',n'⟩))) (P2.env.dx j a z)
     ·exact absurd (.inr (.inr (.inr ⟨i,z,n⟩))) (P2.env.dx j' a z')
     ·exact E1.dj i i' a z z'
    ·rcases r3c i a z with ⟨j,q,z⟩ | ⟨n,z⟩
     ·refine P2.env.dx j a z ?_
      rcases z2 with (z2 | z2) | z2
      ·exact .inr (z2 ▸ DO)
      ·exact .inl z2
      ·exact .inr (.inl z2)
     ·rcases z2 with (z2 | z2) | z2
      ·exact nD a (.inl ⟨i,z⟩) z2
      ·exact P2.fx a z2 (.inr (.inr ⟨i,z,n⟩))
      ·exact E1.dx i a z z2
   have n1:∀ a,H1 a=none→H a=none:=fun a z=>by
    cases q:H a with
    | none=>rfl
    | some o =>
     obtain ⟨o',q'⟩:=P1.dom a o q
     rw [z] at q'
     cases q'
   refine k (.ref D) H2 R3 (fun a=>a=D∨Fa a) ⟨env3,fun a z z2=>?_,fun a o q n=>?_,fun a z=>?_,fun a o q=>?_,fun z=>nomatch z⟩ ⟨D,vs,rfl,.inr ⟨hz,hDl,.inl rfl,Fa,fun b z=>⟨.inr z,fD b z⟩,?_⟩⟩
   ·rcases z with z | z
    ·exact nD a (.inr z2) z
    ·exact P2.fx a z (.inl z2)
   ·refine P2.keep a o (P1.keep a o q n) fun kk z=>?_
    obtain ⟨j,_,z⟩:=ric kk a z
    rcases P1.own a (.inr ⟨j,z⟩) with ⟨i',z⟩ | z
    ·exact n i' z
    ·rw [q] at z; cases z
   ·have h3:(∃ i,R1 i a)∨H1 a=none:=by
     have h4:(Fa a∨∃ kk,RI2 kk a)→(∃ i,R1 i a)∨H1 a=none:=fun z=>by
      rcases P2.own a z with ⟨kk,z⟩ | z
      ·obtain ⟨j,_,z⟩:=ric kk a z
       exact .inl ⟨j,z⟩
      ·exact .inr z
     rcases z with (z | z) | ⟨i,z⟩
     ·exact .inr (z ▸ hD)
     ·exact h4 (.inl z)
     ·rcases r3c i a z with ⟨j,_,z⟩ | ⟨n,z⟩
      ·exact h4 (.inr ⟨j,z⟩)
      ·exact .inl ⟨i,z⟩
    rcases h3 with h3 | h3
    ·exact P1.own a (.inr h3)
    ·exact .inr (n1 a h3)
   ·obtain ⟨o',q'⟩:=P1.dom a o q
    exact P2.dom a o' q'
   ·rw [hd]
    exact Ows.grow sub3 _ (fun _ z=>z) oacc
end
end L2
namespace L2
open PySem PySem.Spec PyProof.Rows
def msk:List Nat→En→En
 | d :: ds,o :: en=>(if d=0 then none else o) :: msk ds en
 | _,_=>[]
def fnF (n:Nat) (dps:List Nat) (b:MS):List PyData→Option (PyData × En):=fun ts=>(b (ts.map some++List.replicate n none)).bind fun fl=>match fl with
 | .rt t en=>some (t,msk dps en)
 | .nx en=>some (.none,msk dps en)
 | .ct _=>none
def m5 (dps:List Nat):List Nat:=(List.range dps.length).filter fun j=>dps[j]? != some 0
section
variable {K:PySem.W.Frag} {p p1 p2 q:Bool} {J:Jd} {lk:List Nat} {ds ds0 ds1 ds2 ds' dps:List Nat} {Ox Ox' O O':AS} {H H' H1:Hp} {σ σ':St} {en en' en1 en2:En} {R R' R1:Nat→AS} {d d' d1 d2 dr:Nat} {t t1 t2:PyData} {Q:VK} {f f1 f2:ME} {i:Nat} {v:V} {D:Ends}
theorem oE:∀ {dps:List Nat} {en:En} {j:Nat} {u:PyData},(msk dps en)[j]?=some (some u)→∃ d,dps[j]?=some d∧d≠0∧en[j]?=some (some u)
 | [],en,j,u,h=>by unfold msk at h; simp at h
 | d :: ds,[],j,u,h=>by unfold msk at h; simp at h
 | d :: ds,o :: en,j,u,h=>by
  unfold msk at h
  cases j with
  | zero =>
   by_cases hd:d=0
   ·simp [hd] at h
   ·refine ⟨d,rfl,hd,?_⟩
    simpa [hd] using h
  | succ j =>
   have:=oE (dps:=ds) (en:=en) (j:=j) (u:=u) (by simpa using h)
   simpa using this
theorem oD:∀ {dps:List Nat} {en:En},dps.length≤en.length→(msk dps en).length=dps.length
 | [],en,_=>by unfold msk; rfl
 | d :: ds,[],h=>by simp at h
 | d :: ds,o :: en,h=>by
  unfold msk
  rw [List.length_cons,List.length_cons,oD (by simpa using h)]
theorem Bg {N:List Str} {vs:List V} {E:XK} {n:Nat} {b:MS} (hn:N.length - dps.length=n) (h:spF K dps dr (fnF n dps b) vs H Q E) :
  tFS K ⟨m5 dps,dps++List.replicate n 0,dr,[]⟩ (dps++List.replicate n 0) (dps++List.replicate n 0) b { nx:=fun _ H'=>Q .non H',rt:=Q } (bX N vs) H:=by
 obtain ⟨Ox,ts,R,r,outs,e,hf,k⟩:=h
 have lv:dps.length=vs.length:=by have:=e.l2; rw [List.length_map] at this; exact this
 have lt:ts.length=vs.length:=by have:=e.l1; rw [List.length_map,List.length_map] at this; exact this
 have hs:bX N vs=vs.map some++List.replicate n none:=by unfold bX; rw [← lv,hn]
 unfold fnF at hf
 obtain ⟨fl,h1,hf⟩:=Option.bind_eq_some_iff.mp hf
 have get0:∀ {α:Type} (xs:List α) (i:Nat) (u:α),(xs.map some++List.replicate n none)[i]?=some (some u)→(xs.map some)[i]?=some (some u)∧i < xs.length:=fun xs i u z=>by
  by_cases hi:i < xs.length
  ·rw [List.getElem?_append_left (by rw [List.length_map]; exact hi)] at z
   exact ⟨z,hi⟩
  ·rw [List.getElem?_append_right (by rw [List.length_map]; omega),List.getElem?_replicate] at z
   split at z
   ·cases z
   ·cases z
 have e0:EnvOk K (dps++List.replicate n 0) Ox H (bX N vs) (ts.map some++List.replicate n none) R:=by
  rw [hs]
  refine ⟨fun i u hu=>?_,e.dj,e.dx,e.dom,by simp [lt],by simp [lv]⟩
  obtain ⟨hu',hi⟩:=get0 ts i u hu
  obtain ⟨v,d,g1,g2,g3⟩:=e.at_ i u hu'
  refine ⟨v,d,?_,?_,g3⟩
  ·rw [List.getElem?_append_left (by rw [List.length_map]; omega)]; exact g1
  ·rw [List.getElem?_append_left (by omega)]; exact g2
 have back:∀ {σ' en' H' R' F},PostS K (m5 dps) (dps++List.replicate n 0) Ox (bX N vs) H R σ' en' H' R' F→Post K false dps Ox (vs.map some) H (ts.map some) R (msk dps en') H' R' F:=fun {σ' en' H' R' F} P=>by
  have l1:=P.env.l1
  have l2:=P.env.l2
  rw [List.length_append,List.length_replicate] at l2
  refine ⟨⟨fun j u hu=>?_,P.env.dj,P.env.dx,P.env.dom,by rw [oD (by omega),List.length_map]; exact lv,by rw [List.length_map]; exact lv⟩,P.fx,P.keep,P.own,P.dom,fun z=>nomatch z⟩
  obtain ⟨d,a1,a2,a3⟩:=oE hu
  obtain ⟨v,d',g1,g2,g3⟩:=P.env.at_ j u a3
  have hj:j < dps.length:=(List.getElem?_eq_some_iff.mp a1).1
  have hlk:j∈m5 dps:=by
   unfold m5
   rw [List.mem_filter,List.mem_range]
   refine ⟨hj,?_⟩
   rw [a1]
   simpa using a2
  rw [P.lk j hlk,hs,List.getElem?_append_left (by rw [List.length_map]; omega)] at g1
  rw [List.getElem?_append_left hj] at g2
  exact ⟨v,d',g1,g2,g3⟩
 refine ⟨Ox,_,R,fl,e0,h1,?_⟩
 cases fl with
 | nx en2 =>
  cases hf
  exact fun σ2 H2 R2 P2=>k .non H2 R2 NoA (back P2) rfl
 | ct en2=>cases hf
 | rt t en2 =>
  cases hf
  exact fun v σ2 H2 R2 F P2 o=>k v H2 R2 F (back P2) o
theorem Post.slot {F G F':AS} {l:Addr} {o2:HO} (P:Post K p ds1 Ox σ H en R en1 H1 R1 F) (hl:R1 i l) (hi:i < en1.length) (hv:σ[i]?=some (some v)) (hd:ds1[i]?=some d)
  (hg:∀ a,G a→R1 i a∨F a) (hf:∀ a,F' a→R1 i a∨F a) (hx:∀ a,G a→¬ F' a)
  (ho:Ow K (Own (fun j=>if j=i then G else R1 j) (U F' Ox)) (upd H1 l o2) t d v G) :
  Post K false ds1 Ox σ H en R (en1.set i (some t)) (upd H1 l o2) (fun j=>if j=i then G else R1 j) F':=by
 have rc:∀ (j:Nat) a,(if j=i then G else R1 j) a→R1 j a∨(j=i∧F a):=fun j a z=>by
  by_cases hj:j=i
  ·rw [if_pos hj] at z
   rcases hg a z with z | z
   ·exact .inl (hj ▸ z)
   ·exact .inr ⟨hj,z⟩
  ·rw [if_neg hj] at z; exact .inl z
 have sub:∀ a,Own (fun j=>if j=i then G else R1 j) (U F' Ox) a→Own R1 (U F Ox) a:=fun a z=>by
  rcases z with ⟨j,z⟩ | z | z
  ·rcases rc j a z with z | ⟨_,z⟩
   ·exact .inl ⟨j,z⟩
   ·exact .inr (.inl z)
  ·rcases hf a z with z | z
   ·exact .inl ⟨i,z⟩
   ·exact .inr (.inl z)
  ·exact .inr (.inr z)
 have dom2:∀ a o,H1 a=some o→∃ o',upd H1 l o2 a=some o':=fun a o q=>by
  by_cases ha:a=l
  ·subst ha; exact ⟨_,aJ⟩
  ·exact ⟨o,by rw [aF ha]; exact q⟩
 have nl:∀ a o,H1 a=some o→a≠l→upd H1 l o2 a=some o:=fun a o q n=>by rw [aF n]; exact q
 refine ⟨⟨fun j u hu=>?_,fun j j' a z z'=>?_,fun j a z z2=>?_,fun a z=>?_,by rw [List.length_set]; exact P.env.l1,P.env.l2⟩,fun a z z2=>?_,fun a o q n=>?_,fun a z=>?_,fun a o q=>?_,fun z=>nomatch z⟩
 ·by_cases hj:j=i
  ·subst hj
   rw [List.getElem?_set_self hi] at hu
   cases hu
   refine ⟨v,d,hv,hd,?_⟩
   rw [if_pos rfl]
   exact ho
  ·rw [List.getElem?_set_ne (Ne.symm hj)] at hu
   obtain ⟨v',d',g1,g2,g3⟩:=P.env.at_ j u hu
   refine ⟨v',d',g1,g2,?_⟩
   rw [if_neg hj]
   refine Ow.mv (G:=R1 j) ⟨fun a o q z=>nl a o q fun za=>?_,fun a z=>.inl (sub a z)⟩ u (fun _ z=>z) g3
   subst za
   rcases z with z | z
   ·exact z (.inl ⟨i,hl⟩)
   ·exact hj (P.env.dj j i a z hl)
 ·have z0:=z
  have z0':=z'
  by_cases hj:j=i <;> by_cases hj':j'=i
  ·rw [hj,hj']
  ·rw [if_pos hj] at z0; rw [if_neg hj'] at z0'
   rcases hg a z0 with z1 | z1
   ·exact absurd (P.env.dj i j' a z1 z0') (fun e=>hj' e.symm)
   ·exact absurd (.inl z1) (P.env.dx j' a z0')
  ·rw [if_neg hj] at z0; rw [if_pos hj'] at z0'
   rcases hg a z0' with z1 | z1
   ·exact absurd (P.env.dj j i a z0 z1) hj
   ·exact absurd (.inl z1) (P.env.dx j a z0)
  ·rw [if_neg hj] at z0; rw [if_neg hj'] at z0'
   exact P.env.dj j j' a z0 z0'
 ·have z0:=z
  by_cases hj:j=i
  ·rw [if_pos hj] at z0
   rcases z2 with z2 | z2
   ·exact hx a z0 z2
   ·rcases hg a z0 with z1 | z1
    ·exact P.env.dx i a z1 (.inr z2)
    ·exact P.fx a z1 z2
  ·rw [if_neg hj] at z0
   rcases z2 with z2 | z2
   ·rcases hf a z2 with z1 | z1
    ·exact hj (P.env.dj j i a z0 z1)
    ·exact P.env.dx j a z0 (.inl z1)
   ·exact P.env.dx j a z0 (.inr z2)
 ·obtain ⟨o,q⟩:=P.env.dom a (sub a z)
  exact dom2 a o q
 ·rcases hf a z with z1 | z1
  ·exact P.env.dx i a z1 (.inr z2)
  ·exact P.fx a z1 z2
 ·refine nl a o (P.keep a o q n) fun za=>?_
  subst za
  rcases P.own a (.inr ⟨i,hl⟩) with ⟨j,z⟩ | z
  ·exact n j z
  ·rw [q] at z; cases z
 ·have:F a∨∃ j,R1 j a:=by
   rcases z with z | ⟨j,z⟩
   ·rcases hf a z with z | z
    ·exact .inr ⟨i,z⟩
    ·exact .inl z
   ·rcases rc j a z with z | ⟨_,z⟩
    ·exact .inr ⟨j,z⟩
    ·exact .inl z
  exact P.own a this
 ·obtain ⟨o',q'⟩:=P.dom a o q
  exact dom2 a o' q'
theorem iN {G F' F:AS} (hg:∀ a,G a→R1 i a∨F a) (hf:∀ a,F' a→R1 i a∨F a):∀ a,Own (fun j=>if j=i then G else R1 j) (U F' Ox) a→Own R1 (U F Ox) a:=fun a z=>by
 rcases z with ⟨j,z⟩ | z | z
 ·by_cases hj:j=i
  ·rw [if_pos hj] at z
   rcases hg a z with z | z
   ·exact .inl ⟨i,z⟩
   ·exact .inr (.inl z)
  ·rw [if_neg hj] at z; exact .inl ⟨j,z⟩
 ·rcases hf a z with z | z
  ·exact .inl ⟨i,z⟩
  ·exact .inr (.inl z)
 ·exact .inr (.inr z)
theorem aU {α:Type} {en:List (Option α)} {i:Nat} {t:α} (h:(en[i]?).join=some t):en[i]?=some (some t):=by
 cases q:en[i]? with
 | none=>rw [q] at h; cases h
 | some o=>rw [q] at h; exact congrArg some h
theorem Ow.sqL {ts:List PyData} {F:AS} (h:Ow K O H (.list ts) d v F):∃ a vs,v=.ref a∧SqL K H a vs:=by
 obtain ⟨a,vs,e,⟨_,h1,_⟩ | ⟨_,h1,_⟩⟩:=h
 ·exact ⟨a,vs,e,h1.sq⟩
 ·exact ⟨a,vs,e,SqL.of h1⟩
theorem Ow.ownL {ts:List PyData} {F:AS} (hd:d≠0) (h:Ow K O H (.list ts) d v F):∃ a vs,v=.ref a∧H a=some (.lst vs)∧F a∧∃ F':AS,(∀ b,F' b→F b∧b≠a)∧Ows K O H ts (dn d) vs F':=by
 obtain ⟨a,vs,e,⟨h0,_⟩ | ⟨_,h1,h2,h3⟩⟩:=h
 ·exact absurd h0 hd
 ·exact ⟨a,vs,e,h1,h2,h3⟩
theorem Ows.past {ts:List PyData} {vs:List V} {F:AS} {l:Addr} {o:HO} (ho:∀ a,O' a→O a) (hl:O l) (hf:∀ b,F b→b≠l) (h:Ows K O H ts d vs F):Ows K O' (upd H l o) ts d vs F :=
 Ows.mv (G:=F) ⟨fun a u q z=>by
  rw [aF]
  ·exact q
  ·intro za
   subst za
   rcases z with z | z
   ·exact z hl
   ·exact hf a z rfl,fun a z=>.inl (ho a z)⟩ ts (fun _ z=>z) h
theorem Ow.past {F:AS} {l:Addr} {o:HO} (ho:∀ a,O' a→O a) (hl:O l) (hf:∀ b,F b→b≠l) (h:Ow K O H t d v F):Ow K O' (upd H l o) t d v F :=
 Ow.mv (G:=F) ⟨fun a u q z=>by
  rw [aF]
  ·exact q
  ·intro za
   subst za
   rcases z with z | z
   ·exact z hl
   ·exact hf a z rfl,fun a z=>.inl (ho a z)⟩ t (fun _ z=>z) h
def bZ (i:Nat) (f:ME):ME:=fun en=>match (en[i]?).join with
 | some (.list _)=>(f en).bind fun r=>match (r.2[i]?).join with
  | some (.list ts)=>if ts.length < sizeLine then some (.none,r.2.set i (some (.list (ts++[r.1])))) else none
  | _=>none
 | _=>none
theorem Gr {c:Nat} (hd:ds1[i]?=some d) (hz:d≠0) (hc:dn d=c) (h:tF K false ds ds1 3 (bZ i f) σ H Q):tBM K "list" ou (ff i) (iX (tF K p ds ds1 c f) mH) σ H Q:=by
 obtain ⟨Ox,en,R,t,en',e,hf,k⟩:=h
 unfold bZ at hf
 split at hf
 case h_2=>cases hf
 next ts0 h0 =>
 obtain ⟨⟨t1,en1⟩,h1,hf⟩:=Option.bind_eq_some_iff.mp hf
 dsimp only at hf
 split at hf
 case h_2=>cases hf
 next ts h2 =>
 by_cases hlen:ts.length < sizeLine
 case neg=>rw [if_neg hlen] at hf; cases hf
 rw [if_pos hlen] at hf
 cases hf
 obtain ⟨v,d0,a1,_,a3⟩:=e.at_ i _ (aU h0)
 obtain ⟨l0,vs0,e0,sq⟩:=a3.sqL
 refine ⟨v,a1,?_,Ox,en,R,t1,en1,e,h1,fun x H1 R1 F P o=>?_⟩
 ·rw [e0]; exact .inl ⟨rfl,vs0,sq⟩
 obtain ⟨v',d',b1,b2,b3⟩:=P.env.at_ i _ (aU h2)
 rw [a1] at b1
 cases b1
 rw [hd] at b2
 cases b2
 obtain ⟨l,vs,el,hl,hr,F',hf',ow⟩:=b3.ownL hz
 refine ⟨l,vs,x,el,rfl,hl,by rw [ow.len]; exact hlen,?_⟩
 have hi:i < en1.length:=(List.getElem?_eq_some_iff.mp (aU h2)).1
 have Fn:∀ a,F a→a≠l:=fun a z z2=>by
  subst z2
  exact P.env.dx i a hr (.inl z)
 have sub:=iN (i:=i) (R1:=R1) (Ox:=Ox) (G:=fun a=>R1 i a∨F a) (F':=NoA) (F:=F) (fun _ z=>z) (fun _ z=>z.elim)
 have Ol:Own R1 (U F Ox) l:=.inl ⟨i,hr⟩
 refine k .non (upd H1 l (.lst (vs++[x]))) _ NoA (P.slot (G:=fun a=>R1 i a∨F a) hr hi a1 hd (fun _ z=>z) (fun _ z=>z.elim) (fun _ _ z=>z) ?_) rfl
 refine ⟨l,vs++[x],el,.inr ⟨hz,aJ,.inl hr,U F' F,fun b z=>?_,?_⟩⟩
 ·rcases z with z | z
  ·exact ⟨.inl (hf' b z).1,(hf' b z).2⟩
  ·exact ⟨.inr z,Fn b z⟩
 ·refine Ows.snoc (Ows.past sub Ol (fun b z=>(hf' b z).2) ow) ?_ fun b z1 z2=>P.env.dx i b (hf' b z1).1 (.inl z2)
  rw [hc]
  exact Ow.past sub Ol Fn o
theorem Ows.out:∀ {ts:List PyData} {vs:List V} {F:AS} {k:Nat} {t:PyData},Ows K O H ts d vs F→ts[k]?=some t →
  ∃ v,∃ F1 F2:AS,vs[k]?=some v∧(∀ b,F1 b→F b)∧(∀ b,F2 b→F b)∧(∀ b,F1 b→¬ F2 b)∧Ow K O H t d v F1∧Ows K O H (ts.eraseIdx k) d (vs.eraseIdx k) F2
 | [],_,_,k,t,_,h=>by simp at h
 | u :: ts,_,F,k,t,h,hk=>by
  obtain ⟨v,r,F1,F2,e,s1,s2,s3,h4,h5⟩:=h
  subst e
  cases k with
  | zero =>
   have:u=t:=by simpa using hk
   subst this
   exact ⟨v,F1,F2,rfl,s1,s2,s3,h4,h5⟩
  | succ k =>
   obtain ⟨w,G1,G2,g1,g2,g3,g4,g5,g6⟩:=Ows.out (k:=k) h5 (by simpa using hk)
   refine ⟨w,G1,U F1 G2,by simpa using g1,fun b z=>s2 b (g2 b z),fun b z=>z.elim (s1 b) fun z=>s2 b (g3 b z),fun b z z2=>?_,g5,v,r.eraseIdx k,F1,G2,rfl,fun b=>.inl,fun b=>.inr,fun b z1 z2=>s3 b z1 (g3 b z2),h4,g6⟩
   rcases z2 with z2 | z2
   ·exact s3 b z2 (g2 b z)
   ·exact g4 b z z2
def fq (i:Nat) (f:ME):ME:=fun en=>match (en[i]?).join with
 | some (.list _)=>(f en).bind fun r=>match r.1,(r.2[i]?).join with
  | .int n,some (.list ts)=>if -(2 ^ 63)≤n∧n < 2 ^ 63 then (seqIndex? n ts.length).bind fun k=>(ts[k]?).map fun t=>(t,r.2.set i (some (.list (ts.eraseIdx k)))) else none
  | _,_=>none
 | _=>none
theorem Bv {c:Nat} (hd:ds1[i]?=some d) (hz:d≠0) (hc:dn d=c) (h:tF K false ds ds1 c (fq i f) σ H Q):tBM K "list" qF (ff i) (iX (tF K p ds ds1 d1 f) mH) σ H Q:=by
 obtain ⟨Ox,en,R,t,en',e,hf,k⟩:=h
 unfold fq at hf
 split at hf
 case h_2=>cases hf
 next ts0 h0 =>
 obtain ⟨⟨t1,en1⟩,h1,hf⟩:=Option.bind_eq_some_iff.mp hf
 dsimp only at hf
 split at hf
 case h_2=>cases hf
 next n ts h2 =>
 by_cases hn:-(2 ^ 63)≤n∧n < 2 ^ 63
 case neg=>rw [if_neg hn] at hf; cases hf
 rw [if_pos hn] at hf
 obtain ⟨kk,h3,hf⟩:=Option.bind_eq_some_iff.mp hf
 obtain ⟨t',h4,hf⟩:=Option.map_eq_some_iff.mp hf
 cases hf
 obtain ⟨v,d0,a1,_,a3⟩:=e.at_ i _ (aU h0)
 obtain ⟨l0,vs0,e0,sq⟩:=a3.sqL
 refine ⟨v,a1,?_,Ox,en,R,.int n,en1,e,h1,fun x H1 R1 F P o=>?_⟩
 ·rw [e0]; exact .inl ⟨rfl,vs0,sq⟩
 obtain ⟨v',d',b1,b2,b3⟩:=P.env.at_ i _ (aU h2)
 rw [a1] at b1
 cases b1
 rw [hd] at b2
 cases b2
 obtain ⟨l,vs,el,hl,hr,F',hf',ow⟩:=b3.ownL hz
 have len:=ow.len
 obtain ⟨w,F1,F2,g1,g2,g3,g4,g5,g6⟩:=ow.out h4
 have ex:x=.int n:=o
 refine ⟨l,vs,n,kk,w,el,by rw [ex],hl,hn.1,hn.2,by rw [len]; exact h3,g1,?_⟩
 have hi:i < en1.length:=(List.getElem?_eq_some_iff.mp (aU h2)).1
 have gG:∀ a,(fun a=>R1 i a∧¬ F1 a) a→R1 i a∨F a:=fun a z=>.inl z.1
 have gF:∀ a,F1 a→R1 i a∨F a:=fun a z=>.inl (hf' a (g2 a z)).1
 have sub:∀ a,Own (fun j=>if j=i then (fun a=>R1 i a∧¬ F1 a) else R1 j) (U F1 Ox) a→Own R1 (U F Ox) a:=fun a z=>iN gG gF a z
 have Ol:Own R1 (U F Ox) l:=.inl ⟨i,hr⟩
 have F1l:¬ F1 l:=fun z=>(hf' l (g2 l z)).2 rfl
 rw [hc] at g5
 refine k w (upd H1 l (.lst (vs.eraseIdx kk))) _ F1 (P.slot (G:=fun a=>R1 i a∧¬ F1 a) hr hi a1 hd gG gF (fun a z z2=>z.2 z2) ?_) (Ow.past sub Ol (fun b z=>(hf' b (g2 b z)).2) g5)
 exact ⟨l,vs.eraseIdx kk,el,.inr ⟨hz,aJ,⟨hr,F1l⟩,F2,fun b z=>⟨⟨(hf' b (g3 b z)).1,fun z1=>g4 b z1 z⟩,(hf' b (g3 b z)).2⟩,Ows.past sub Ol (fun b z=>(hf' b (g3 b z)).2) g6⟩⟩
theorem Ows.setAt:∀ {ts:List PyData} {vs:List V} {F F2:AS} {k:Nat} {t:PyData} {v:V},Ows K O H ts d vs F→Ow K O H t d v F2→(∀ b,F b→¬ F2 b)→Ows K O H (ts.set k t) d (vs.set k v) (U F F2)
 | [],_,_,_,_,_,_,h,_,_=>by rw [show _=[] from h]; rfl
 | u :: ts,_,F,F2,k,t,v,h,h2,hd=>by
  obtain ⟨w,r,G1,G2,e,s1,s2,s3,h4,h5⟩:=h
  subst e
  cases k with
  | zero=>exact ⟨v,r,F2,G2,rfl,fun _ z=>.inr z,fun b z=>.inl (s2 b z),fun b z z2=>hd b (s2 b z2) z,h2,h5⟩
  | succ k =>
   refine ⟨w,r.set k v,G1,U G2 F2,rfl,fun b z=>.inl (s1 b z),fun b z=>z.imp (s2 b) id,fun b z z2=>?_,h4,Ows.setAt h5 h2 fun b z=>hd b (s2 b z)⟩
   rcases z2 with z2 | z2
   ·exact s3 b z z2
   ·exact hd b (s1 b z) z2
def dC (i:Nat) (fk fe:ME):MS:=fun en=>(fe en).bind fun r=>match (r.2[i]?).join with
 | some _=>(fk r.2).bind fun q=>match q.1,(q.2[i]?).join with
  | .int n,some (.list ts)=>(ixN ts.length n).map fun k=>.nx (q.2.set i (some (.list (ts.set k r.1))))
  | _,_=>none
 | none=>none
theorem A2 {c:Nat} {fk fe:ME} (hd:ds2[i]?=some d) (hz:d≠0) (hc:dn d=c) (h:tFS K J ds ds2 (dC i fk fe) D σ H) :
  mJ (tF K p1 ds ds1 c fe) (Ey (ff i) (tF K p2 ds1 ds2 d2 fk) zA) D σ H:=by
 obtain ⟨Ox,en,R,fl,e,hf,k⟩:=h
 unfold dC at hf
 obtain ⟨⟨t1,en1⟩,h1,hf⟩:=Option.bind_eq_some_iff.mp hf
 dsimp only at hf
 split at hf
 case h_2=>cases hf
 next tt h0 =>
 obtain ⟨⟨t2,en2⟩,h2,hf⟩:=Option.bind_eq_some_iff.mp hf
 dsimp only at hf
 split at hf
 case h_2=>cases hf
 next n ts h3 =>
 obtain ⟨kk,h4,hf⟩:=Option.map_eq_some_iff.mp hf
 cases hf
 refine ⟨Ox,en,R,t1,en1,e,h1,fun x H1 R1 F1 P1 o1=>?_⟩
 obtain ⟨v0,d0,a1,_,_⟩:=P1.env.at_ i tt (aU h0)
 refine ⟨v0,a1,?_⟩
 refine ⟨U F1 Ox,en1,R1,.int n,en2,P1.env,h2,fun y H2 R2 F2 P2 o2=>?_⟩
 have P:=P1.trans P2
 have o1':=Ow.over P1.env P2 o1
 obtain ⟨v',d',b1,b2,b3⟩:=P.env.at_ i _ (aU h3)
 rw [a1] at b1
 cases b1
 rw [hd] at b2
 cases b2
 obtain ⟨l,vs,el,hl,hr,F',hf',ow⟩:=b3.ownL hz
 refine ⟨l,vs,n,kk,el,o2,hl,by rw [ow.len]; exact h4,?_⟩
 have hi:i < en2.length:=(List.getElem?_eq_some_iff.mp (aU h3)).1
 have Fn:∀ a,F1 a→a≠l:=fun a z z2=>by
  subst z2
  exact P.env.dx i a hr (.inl (.inl z))
 have gG:∀ a,(fun a=>R2 i a∨F1 a) a→R2 i a∨U F1 F2 a:=fun a z=>z.imp id .inl
 have sub:=iN (i:=i) (R1:=R2) (Ox:=Ox) (G:=fun a=>R2 i a∨F1 a) (F':=NoA) (F:=U F1 F2) gG (fun _ z=>z.elim)
 have Ol:Own R2 (U (U F1 F2) Ox) l:=.inl ⟨i,hr⟩
 have PS:=P.slot (G:=fun a=>R2 i a∨F1 a) (F':=NoA) (o2:=.lst (vs.set kk x)) (t:=.list (ts.set kk t1)) hr hi a1 hd gG (fun _ z=>z.elim) (fun _ _ z=>z) ?_
 ·exact k σ _ _ PS.s
 refine ⟨l,vs.set kk x,el,.inr ⟨hz,aJ,.inl hr,U F' F1,fun b z=>?_,?_⟩⟩
 ·rcases z with z | z
  ·exact ⟨.inl (hf' b z).1,(hf' b z).2⟩
  ·exact ⟨.inr z,Fn b z⟩
 ·refine Ows.setAt (Ows.past sub Ol (fun b z=>(hf' b z).2) ow) ?_ fun b z1 z2=>P.env.dx i b (hf' b z1).1 (.inl (.inl z2))
  rw [hc]
  exact Ow.past sub Ol Fn o1'
theorem Ows.get:∀ {ts:List PyData} {vs:List V} {F:AS} {k:Nat} {t:PyData},Ows K O H ts d vs F→ts[k]?=some t→∃ v,vs[k]?=some v∧Ow K O H t d v F
 | [],_,_,k,t,_,h=>by simp at h
 | u :: ts,_,F,k,t,h,hk=>by
  obtain ⟨v,r,F1,F2,e,s1,s2,s3,h4,h5⟩:=h
  subst e
  cases k with
  | zero =>
   have:u=t:=by simpa using hk
   subst this
   exact ⟨v,rfl,Ow.grow (fun _ z=>z) u s1 h4⟩
  | succ k =>
   obtain ⟨w,g1,g2⟩:=Ows.get (k:=k) h5 (by simpa using hk)
   exact ⟨w,by simpa using g1,Ow.grow (fun _ z=>z) t s2 g2⟩
theorem Ows.atI {ts:List PyData} {vs:List V} {F:AS} {n:Int} {t:PyData} (h:Ows K O H ts d vs F) (ht:L2.atI ts n=some t):∃ v,L2.atI vs n=some v∧Ow K O H t d v F:=by
 unfold L2.atI at ht ⊢
 rw [h.len]
 obtain ⟨k,h1,h2⟩:=Option.bind_eq_some_iff.mp ht
 obtain ⟨v,g1,g2⟩:=h.get h2
 exact ⟨v,by rw [h1]; exact g1,g2⟩
def cC (i:Nat) (f:ME):ME:=fun en=>(en[i]?).join.bind fun _=>(f en).bind fun r=>match r.1,(r.2[i]?).join with
 | .int n,some (.list ts)=>(atI ts n).map fun t=>(t,r.2)
 | _,_=>none
theorem Go (hd:ds1[i]?=some 1) (h:tF K p ds ds1 0 (cC i f) σ H Q):tOp (pq K) (ff i) (tF K p ds ds1 d1 f) σ H Q:=by
 obtain ⟨Ox,en,R,t,en',e,hf,k⟩:=h
 unfold cC at hf
 obtain ⟨t0,h0,hf⟩:=Option.bind_eq_some_iff.mp hf
 obtain ⟨⟨t1,en1⟩,h1,hf⟩:=Option.bind_eq_some_iff.mp hf
 dsimp only at hf
 split at hf
 case h_2=>cases hf
 next n ts h2 =>
 obtain ⟨t',h3,hf⟩:=Option.map_eq_some_iff.mp hf
 cases hf
 obtain ⟨v,d0,a1,_,a3⟩:=e.at_ i _ (aU h0)
 refine ⟨v,a1,Ox,en,R,.int n,_,e,h1,fun x H1 R1 F P o=>?_⟩
 obtain ⟨v',d',b1,b2,b3⟩:=P.env.at_ i _ (aU h2)
 rw [a1] at b1
 cases b1
 rw [hd] at b2
 cases b2
 obtain ⟨l,vs,el,hl,hr,F',hf',ow⟩:=b3.ownL (by decide)
 obtain ⟨w,g1,g2⟩:=ow.atI h3
 refine ⟨l,vs,n,w,el,o,SqL.of hl,g1,k w H1 R1 NoA (P.less fun _ z=>z.elim) ?_⟩
 exact Ow.any0 _ (Ow.grow (fun a z=>z.imp id fun z=>z.elim (fun z=>False.elim z) Or.inr) _ (fun _ z=>z) g2)
end
end L2
namespace L2
open PySem PySem.Spec PyProof.Rows
theorem PE.imp {X:Cx} {e:Expr} {t t':TE} (h:PE X e t) (hi:∀ σ H Q,t' σ H Q→t σ H Q):PE X e t':=fun pins s σ H Q I hw=>h pins s σ H Q I (hi _ _ _ hw)
theorem PT.imp {X:Cx} {e:Expr} {t t':TT} (h:PT X e t) (hi:∀ σ H Q,t' σ H Q→t σ H Q):PT X e t':=fun pins s σ H Q I hw=>h pins s σ H Q I (hi _ _ _ hw)
theorem PW.imp {X:Cx} {e:Expr} {t t':TT} (h:PW X e t) (hi:∀ σ H Q,t' σ H Q→t σ H Q):PW X e t':=fun wh pins s σ H Q I hw=>h wh pins s σ H Q I (hi _ _ _ hw)
theorem PA.imp {X:Cx} {e:List Expr} {t t':TA} (h:PA X e t) (hi:∀ σ H Q,t' σ H Q→t σ H Q):PA X e t':=fun pos pins s σ H Q I hw=>h pos pins s σ H Q I (hi _ _ _ hw)
theorem PS.imp {X:Cx} {e:Stmt} {t t':TS} (h:PS X e t) (hi:∀ D σ H,t' D σ H→t D σ H):PS X e t':=fun pins s σ H D I hw=>h pins s σ H D I (hi _ _ _ hw)
theorem PSs.imp {X:Cx} {e:List Stmt} {t t':TS} (h:PSs X e t) (hi:∀ D σ H,t' D σ H→t D σ H):PSs X e t':=fun pins s σ H D I hw=>h pins s σ H D I (hi _ _ _ hw)
theorem PG.imp {X:Cx} {e:Expr} {t t':TG} (h:PG X e t) (hi:∀ v σ H Q,t' v σ H Q→t v σ H Q):PG X e t':=fun pins s σ H v u Q I r hw=>h pins s σ H v u Q I r (hi _ _ _ _ hw)
theorem PGs.imp {X:Cx} {e:List Expr} {t t':TGs} (h:PGs X e t) (hi:∀ v σ H Q,t' v σ H Q→t v σ H Q):PGs X e t':=fun pins s σ H v u Q I r hw=>h pins s σ H v u Q I r (hi _ _ _ _ hw)
theorem PI.imp {X:Cx} {tg e:Expr} {t t':TI} (h:PI X tg e t) (hi:∀ σ H R,t' σ H R→t σ H R):PI X tg e t':=fun pins s σ H R I hw=>h pins s σ H R I (hi _ _ _ hw)
theorem PTs.imp {X:Cx} {e:List Expr} {t t':TT} (h:PTs X e t) (hi:∀ σ H Q,t' σ H Q→t σ H Q):PTs X e t':=fun pins s σ H Q I hw=>h pins s σ H Q I (hi _ _ _ hw)
def aN:Expr→Bool
 | .Starred _ _=>false
 | _=>true
theorem bQ {e:Expr} {es:List Expr} {env:Env} (h:aN e=true):starEach (e :: es) env=(false,eval e env) :: starEach es env:=by
 cases e <;> first | rfl | cases h
theorem dQ {pos:Pos} {env:Env}:∀ {es:List Expr},es.all aN=true→(backTo pos (starEach es env)).any (·.1)=false
 | [],_=>rfl
 | e :: es,h=>by
  rw [List.all_cons,Bool.and_eq_true] at h
  rw [bQ h.1]
  show (false || (backTo pos (starEach es env)).any (·.1))=false
  rw [dQ h.2]
  rfl
section
variable {X:Cx} {K:PySem.W.Frag} {p p1 p2 q:Bool} {ds ds0 ds1 ds2 ds' dsi:List Nat} {d d' d1 d2:Nat} {a b c e:Expr} {es:List Expr} {f f1 f2:ME} {m c1 c2:MT} {fa:MA} {sh:Sh} {pos:Pos} {i:Nat} {x:Str}
theorem EX {x:Str} (hN:X.N[i]?=some x) (hv:Vis X.env.scope x) (h0:ds[i]?=some 0) (hd:(x == ("__debug__" : Str))=false) (hcd:(x == ("__classdict__" : Str))=false):PE X (.Name x pos) (tF K p ds ds 0 (ac i)) :=
 (dF hN hv hd hcd).imp fun _ _ _ h=>Gi h0 (gU (fun _=>rfl) h)
theorem E8 {n:Int} {j}:PE X (.Constant (.int n) j pos) (tF K p ds ds 3 (eC (.int n))):=pe_int.imp fun _ _ _ h=>f_c (t:=.int n) (fun _ _ _ _=>rfl) (gU (fun _=>rfl) h)
theorem Gh {n:Bool} {j}:PE X (.Constant (.bool n) j pos) (tF K p ds ds 3 (eC (.bool n))):=pe_bl.imp fun _ _ _ h=>f_c (t:=.bool n) (fun _ _ _ _=>rfl) (gU (fun _=>rfl) h)
theorem E4 {j}:PE X (.Constant .none j pos) (tF K p ds ds 3 (eC .none)):=pe_non.imp fun _ _ _ h=>f_c (t:=.none) (fun _ _ _ _=>rfl) (gU (fun _=>rfl) h)
theorem E2 {n:Str} {j}:PE X (.Constant (.str n) j pos) (tF K p ds ds 3 (eC (.str n))):=pe_str.imp fun _ _ _ h=>f_c (t:=.str n) (fun _ _ _ _=>rfl) (gU (fun _=>rfl) h)
theorem tS {x:Str} {n:Int} {t:Tok} (hg:Gl X x) (hm:X.mg x=some (.int n t)) (hd:(x == ("__debug__" : Str))=false):PE X (.Name x pos) (tF K p ds ds 3 (eC (.int n))) :=
 (Aw (v:=.int n) hg hm ⟨t,rfl⟩ hd).imp fun _ _ _ h=>f_c (t:=.int n) (fun _ _ _ _=>rfl) (gU (fun _=>rfl) h)
theorem EZ (h:PE X e (tF K p ds ds' d f)) (hd:d'≤d):PE X e (tF K p ds ds' d' f):=h.imp fun _ _ _=>Gk hd
theorem Gf (h:PE X e (tF K p ds0 ds' d f)) (hd:leD ds0 ds=true):PE X e (tF K false ds ds' d f):=h.imp fun _ _ _=>GN hd
theorem Fd (h:PE X e (tF K true ds0 ds0 3 f)) (hd:leD ds0 ds=true):PE X e (tF K p ds ds 3 f):=h.imp fun _ _ _ h=>Gq hd (gU (fun _=>rfl) h)
theorem Gb {op:Operator} {g:D→D→Option D} (ho:OpR X (binaryOp op) (rF2 K g d)) (ha:PE X a (tF K p ds ds1 d1 f1)) (hb:PE X b (tF K p ds1 ds2 d2 f2)):PE X (.BinOp a op b pos) (tF K p ds ds2 d (e2 g f1 f2)) :=
 (FN ho ha hb).imp fun _ _ _ h=>my (by rw [Bool.and_self]; exact h)
theorem F9 {op:UnaryOp} {g:D→Option D} (ho:UnR X (unaryOp op) (rF1 K g d)) (ha:PE X a (tF K p ds ds1 d1 f1)):PE X (.UnaryOp op a pos) (tF K p ds ds1 d (e1 g f1)) :=
 (FK ho ha).imp fun _ _ _=>Gm
theorem Fc {op:CmpOp} {g:D→D→Option D} (ho:OpR X (compareOp op) (rF2 K g d)) (ha:PE X a (tF K p ds ds1 d1 f1)) (hb:PE X b (tF K p ds1 ds2 d2 f2)) (hm:behindInMarks op b=false):PE X (.Compare a [op] [b] pos) (tF K p ds ds2 d (e2 g f1 f2)) :=
 (Az ho ha hb hm).imp fun _ _ _ h=>my (by rw [Bool.and_self]; exact h)
theorem AY {op:CmpOp} {g:D→D→Option D} (ho:OpR X (compareOp op) (rF2 K g d)) (ha:PE X a (tF K p ds ds1 d1 f1)) (hb:PE X b (tF K p ds1 ds2 d2 f2)) (hm:behindInMarks op b=false):PT X (.Compare a [op] [b] pos) (tFT K p ds ds2 (tV (e2 g f1 f2))) :=
 (An ho ha hb hm).imp fun σ H Q h=>by
  obtain ⟨Ox,en,R,t,en',e,hf,k⟩:=rq (d:=d) h
  exact my (by rw [Bool.and_self]; exact ⟨Ox,en,R,t,en',e,hf,k⟩)
theorem AW (h:PE X e (tF K p ds ds' d f)) (he:∀ whole,isTrue e X.env whole=(do let v ← whole; standAt e.pos; holding [v] (truthy v))):PT X e (tFT K p ds ds' (tV f)):=(DR h he).imp fun _ _ _=>rq
theorem AT (ha:PT X a (tFT K p ds ds1 c1)):PW X (.BoolOp .And [a] pos) (tFT K p ds ds1 c1):=Al ha
theorem EA (ha:PT X a (tFT K p ds ds1 c1)):PW X (.BoolOp .Or [a] pos) (tFT K p ds ds1 c1):=DP ha
theorem EB {rest:List Expr} (ha:PT X a (tFT K p ds ds1 c1)) (hb:PW X (.BoolOp .And (b :: rest) pos) (tFT K p ds1 ds1 c2)):PW X (.BoolOp .And (a :: b :: rest) pos) (tFT K p ds ds1 (cE c1 c2)):=(DQ ha hb).imp fun _ _ _ h=>EE (by rw [Bool.and_self]; exact h)
theorem FZ {rest:List Expr} (ha:PT X a (tFT K p ds ds1 c1)) (hb:PW X (.BoolOp .Or (b :: rest) pos) (tFT K p ds1 ds1 c2)):PW X (.BoolOp .Or (a :: b :: rest) pos) (tFT K p ds ds1 (bOr c1 c2)):=(FJ ha hb).imp fun _ _ _ h=>F7 (by rw [Bool.and_self]; exact h)
theorem AX (ha:PT X a (tFT K p ds ds1 c1)):PT X (.UnaryOp .Not a pos) (tFT K p ds ds1 (cW c1)):=(DS ha).imp fun _ _ _=>EC
theorem AZ (h:PT X e (tFT K true ds0 ds0 c1)) (hd:leD ds0 ds=true):PT X e (tFT K p ds ds c1):=h.imp fun _ _ _ ⟨Ox,en,R,t,en',e,hf,k⟩=>ED hd ⟨Ox,en,R,t,en',e,hf,fun H' R' P=>k H' R' ⟨P.env,P.fx,P.keep,P.own,P.dom,fun _=>P.pure rfl⟩⟩
theorem E3 {op} (h:PE X a (tF K p ds ds1 d f)):PE X (.BoolOp op [a] pos) (tF K p ds ds1 d f):=D1 h
theorem Fg {rest:List Expr} (ha:PE X a (tF K p ds ds1 d1 f1)) (hb:PE X (.BoolOp .And (b :: rest) pos) (tF K p ds1 ds1 d f2)):PE X (.BoolOp .And (a :: b :: rest) pos) (tF K p ds ds1 d (jN f1 f2)):=(D4 ha hb).imp fun _ _ _ h=>Gs (by rw [Bool.and_self]; exact h)
theorem Ga {rest:List Expr} (ha:PE X a (tF K p ds ds1 d1 f1)) (hb:PE X (.BoolOp .Or (b :: rest) pos) (tF K p ds1 ds1 d f2)):PE X (.BoolOp .Or (a :: b :: rest) pos) (tF K p ds ds1 d (eOr f1 f2)):=(FM ha hb).imp fun _ _ _ h=>GL (by rw [Bool.and_self]; exact h)
theorem Ge (hc:PT X c (tFT K p ds ds1 c1)) (ha:PE X a (tF K p ds1 ds2 d f1)) (hb:PE X b (tF K p ds1 ds2 d f2)):PE X (.IfExp c a b pos) (tF K p ds ds2 d (eIf c1 f1 f2)):=(sG hc ha hb).imp fun _ _ _ h=>GM (by rw [Bool.and_self,Bool.and_self]; exact h)
theorem Bt:PA X [] (tFA K p ds ds [] ah):=pa_nil.imp fun _ _ _ ⟨Ox,en,R,t,en',e,hf,k⟩=>Fh ⟨Ox,en,R,t,en',e,hf,fun vs H' R' F P=>k vs H' R' F ⟨P.env,P.fx,P.keep,P.own,P.dom,fun _=>P.pure rfl⟩⟩
theorem tY (ha:PE X e (tF K p ds ds1 d f)) (hr:PA X es (tFA K p ds1 ds2 sh fa)) (hs:aN e=true):PA X (e :: es) (tFA K p ds ds2 (.inl d :: sh) (ae f fa)):=(dy ha hr (bQ hs)).imp fun _ _ _ h=>Bu (by rw [Bool.and_self]; exact h)
theorem tX {x:Str} (hN:X.N[i]?=some x) (hv:Vis X.env.scope x) (hr:PA X es (tFA K p ds ds2 sh fa)) (hd:(x == ("__debug__" : Str))=false) (hcd:(x == ("__classdict__" : Str))=false) :
  PA X (.Name x pos :: es) (tFA K p ds ds2 (.inr i :: sh) (aL i fa)):=(dy (dF hN hv hd hcd) hr (bQ rfl)).imp fun _ _ _=>Bs
theorem E5 {c:Nat} (h:PA X es (tFA K p ds ds1 sh fa)) (hs:bR c sh=true) (hd:dn d=c) (hz:d≠0):PE X (.List es pos) (tF K p ds ds1 d (ba fa)):=(D2 h).imp fun _ _ _=>Gn hs hd hz
theorem EY {c:Nat} {x1} (h:PA X es (tFA K p ds ds1 sh fa)) (hs:bR c sh=true) (hd:dn d=c):PE X (.Tuple es x1 pos) (tF K p ds ds1 d (fT fa)):=(D0 h).imp fun _ _ _=>Gj hs hd
theorem tW {id:String} {x:Str} {px:Pos} {g:List D→Option D} (hc:CallR X (.builtin id) (rFn K g d)) (hg:Gl X x) (hm:X.mg x=none) (hv:bootBuiltins x=some (.builtin id)) (ha:PA X (e :: es) (tFA K p ds ds1 sh fa)) (hsh:bR 0 sh=true) (hn:x≠"__name__") (hdb:(x == ("__debug__" : Str))=false)
  (he:aN e=true) (hpl:es.all aN=true):PE X (.Call (.Name x px) (e :: es) [] pos) (tF K p ds ds1 d (eN g fa)) :=
 (mP hc hg hm hv ha hn hdb (bQ he) (dQ hpl)).imp fun _ _ _=>rM hsh
theorem rL {T:String} {x:Str} {px:Pos} {g:List D→Option D} (hc:CallR X (.type T) (rFn K g d)) (hg:Gl X x) (hm:X.mg x=none) (hv:bootBuiltins x=some (.type T)) (ha:PA X (e :: es) (tFA K p ds ds1 sh fa)) (hsh:bR 0 sh=true) (hn:x≠"__name__") (hdb:(x == ("__debug__" : Str))=false)
  (he:aN e=true) (hpl:es.all aN=true):PE X (.Call (.Name x px) (e :: es) [] pos) (tF K p ds ds1 d (eN g fa)) :=
 (qK hc hg hm hv ha hn hdb (bQ he) (dQ hpl)).imp fun _ _ _=>rM hsh
theorem Gg {k:Nat} {x:Str} {ps:List Str} {px:Pos} {dps:List Nat} {dr:Nat} {F:List D→Option (D × En)} (G:Kn X.prog X.w X.K X.mg X.base k x ps (spF K dps dr F)) (hr:Room k X.A) (hg:Gl X x) (ha:PA X (e :: es) (tFA K p ds ds1 sh fa)) (hns:fg sh=true) (hcd:dM ds1 sh dps=true) (hdb:(x == ("__debug__" : Str))=false)
  (he:aN e=true) (hpl:es.all aN=true) :
  PE X (.Call (.Name x px) (e :: es) [] pos) (tF K p ds ds1 dr (ar F fa)):=(zF G hr hg ha hdb (bQ he) (dQ hpl)).imp fun _ _ _ h=>tZ hcd (by rw [hns,Bool.and_true]; exact h)
theorem E9 {k:Nat} {x:Str} {ps:List Str} {px:Pos} {dps:List Nat} {dr:Nat} {F:List D→Option (D × En)} (G:Kn X.prog X.w X.K X.mg X.base k x ps (spF K dps dr F)) (hr:Room k X.A) (hg:Gl X x) (ha:PA X (e :: es) (tFA K false ds ds1 sh fa)) (hcd:dM ds1 sh dps=true) (hdb:(x == ("__debug__" : Str))=false)
  (he:aN e=true) (hpl:es.all aN=true) :
  PE X (.Call (.Name x px) (e :: es) [] pos) (tF K false ds ds1 dr (ar F fa)):=(zF G hr hg ha hdb (bQ he) (dQ hpl)).imp fun _ _ _ h=>tZ hcd h
theorem Gd {g:D→D→Option D} (ho:IxR X (rF2 K g d)) (ha:PE X a (tF K p ds ds1 d1 f1)) (hb:PE X b (tF K p ds1 ds2 d2 f2)) (hs:gw b):PE X (.Subscript a b pos) (tF K p ds ds2 d (e2 g f1 f2)) :=
 (zE ho ha hb hs).imp fun _ _ _ h=>my (by rw [Bool.and_self]; exact h)
theorem E6 {x:Str} {px:Pos} (hK:X.K=K) (hN:X.N[i]?=some x) (hv:Vis X.env.scope x) (h1:ds1[i]?=some 1) (hb:PE X b (tF K p ds ds1 d1 f)) (hs:gw b) (hd:(x == ("__debug__" : Str))=false) (hcd:(x == ("__classdict__" : Str))=false) :
  PE X (.Subscript (.Name x px) b pos) (tF K p ds ds1 0 (cC i f)):=(zE (GH hK) (dF hN hv hd hcd) hb hs).imp fun _ _ _=>Go h1
theorem Fe {c:Nat} {x:Str} {px apos cpos:Pos} (hK:X.K=K) (hN:X.N[i]?=some x) (hv:Vis X.env.scope x) (h1:ds1[i]?=some d) (he:PE X e (tF K false ds ds1 c f)) (hz:d≠0) (hc:dn d=c)
  (hd:(x == ("__debug__" : Str))=false) (hcd:(x == ("__classdict__" : Str))=false)
  (hbase:attributeBase (.Name x px) "append" X.env (eval (.Name x px) X.env)=eval (.Name x px) X.env)
  (hfew:((backTo cpos (starEach [e] X.env)).all (fun x=>!x.1) && (backToKw cpos (keywordEach [] X.env)).all (fun x=>x.1.isSome) && decide (([e]:List Expr).length+([]:List Keyword).length+(if ([]:List Keyword).isEmpty then 0 else 1) < 30))=true)
  (hline:(apos.endLine == cpos.line)=true) (hs:starEach [e] X.env=[(false,eval e X.env)]) (hplain:(backTo cpos (starEach [] X.env)).any (·.1)=false) :
  PE X (.Call (.Attribute (.Name x px) "append" apos) [e] [] cpos) (tF K false ds ds1 3 (bZ i f)):=by
 subst hK
 exact (mt PySem.F.plainAttrs_list PySem.F.slot_list_append PySem.F.type_list_append lL (dF hN hv hd hcd) (dy he pa_nil hs) hbase hfew hline hs hplain).imp fun _ _ _=>Gr h1 hz hc
theorem tQ {c:Nat} {x:Str} {px apos cpos:Pos} (hK:X.K=K) (hN:X.N[i]?=some x) (hv:Vis X.env.scope x) (h1:ds1[i]?=some d) (he:PE X e (tF K false ds ds1 d1 f)) (hz:d≠0) (hc:dn d=c)
  (hd:(x == ("__debug__" : Str))=false) (hcd:(x == ("__classdict__" : Str))=false)
  (hbase:attributeBase (.Name x px) "pop" X.env (eval (.Name x px) X.env)=eval (.Name x px) X.env)
  (hfew:((backTo cpos (starEach [e] X.env)).all (fun x=>!x.1) && (backToKw cpos (keywordEach [] X.env)).all (fun x=>x.1.isSome) && decide (([e]:List Expr).length+([]:List Keyword).length+(if ([]:List Keyword).isEmpty then 0 else 1) < 30))=true)
  (hline:(apos.endLine == cpos.line)=true) (hs:starEach [e] X.env=[(false,eval e X.env)]) (hplain:(backTo cpos (starEach [] X.env)).any (·.1)=false) :
  PE X (.Call (.Attribute (.Name x px) "pop" apos) [e] [] cpos) (tF K false ds ds1 c (fq i f)):=by
 subst hK
 exact (mt PySem.F.plainAttrs_list PySem.F.slot_list_pop PySem.F.type_list_pop sM (dF hN hv hd hcd) (dy he pa_nil hs) hbase hfew hline hs hplain).imp fun _ _ _=>Bv h1 hz hc
def cY:MT:=fun en=>some (true,en)
theorem AV:PTs X [] (tFT K p ds ds cY):=pts_nil.imp fun σ H Q ⟨Ox,en,R,b,en',e,hf,k⟩=>by
 cases hf
 exact k H R (Post.refl e)
theorem AU (hc:PT X c (tFT K p ds ds1 c1)):PTs X [c] (tFT K p ds ds1 c1):=Am hc
theorem Gc {elt tg iter:Expr} {ifs:List Expr} {scope:Scope} {ns:List Str} {js:List (Option Nat)} {fi:MI} {g:MG} {lk:List Nat} {cd:Nat} (B:BlkOkC X scope ns js) (hc:X.calm=true) (hi:PI X tg iter (tFI K p ds ds1 fi))
  (hg:∀ C cl s₀ H₀ fp,PG (aR X scope ns C cl s₀ H₀ fp) tg (tFG K lk dsi dsi g)) (ht:∀ C cl s₀ H₀ fp,PTs (aR X scope ns C cl s₀ H₀ fp) ifs (tFT K true dsi dsi c1)) (he:∀ C cl s₀ H₀ fp,PE (aR X scope ns C cl s₀ H₀ fp) elt (tF K true dsi dsi cd f))
  (hcap:fV ds1 js dsi=true) (hd:dn d=cd) (hz:d≠0) (hlk:lk=fU js 0)
  (hs:∀ x,foldedSetIterable iter X.env x=pure x):PE X (.ListComp elt [⟨tg,iter,ifs,0⟩] scope pos) (tF K p ds ds1 d (eLC true fi g c1 f js)) :=
 (D3 B hc hi hg ht he hs).imp fun _ _ _ h=>Fj hcap hd hz hlk (by rw [Bool.and_true]; exact h)
end
end L2
namespace L2
open PySem PySem.Spec PyProof.Rows
def Hi (f:ME) (g:MG):MS:=fun en=>(f en).bind fun r=>(g r.1 r.2).map .nx
section
variable {K:PySem.W.Frag} {p p1 p2 q:Bool} {J:Jd} {ds ds0 ds1 ds2 ds' dsi dps:List Nat} {d d' d1 d2 dr:Nat} {f f1 f2 fk fe:ME} {c1 c2:MT} {fa:MA} {sh:Sh} {i:Nat} {m m1 m2:MS} {g:MG} {lk:List Nat} {σ:St} {H:Hp} {Dn:Ends}
end
section
variable {X:Cx} {K:PySem.W.Frag} {p p1 p2 q:Bool} {J:Jd} {ds ds0 ds1 ds2 ds' dsi dps:List Nat} {d d' d1 d2 dr:Nat} {a b c e tg iter:Expr} {es:List Expr} {st:Stmt} {rest body bodyB:List Stmt} {f f1 f2 fk fe:ME} {c1 c2:MT} {fa:MA} {sh:Sh} {pos px:Pos} {i:Nat} {x:Str} {m m1 m2:MS} {g:MG} {gs:List D→En→Option En} {fi:MI} {lk:List Nat}
theorem A1:PSs X [] (tFS K J ds ds bq):=pss_nil.imp fun _ _ _=>EJ
theorem tw (h1:PS X st (tFS K J ds ds1 m1)) (h2:PSs X rest (tFS K J ds1 ds2 m2)):PSs X (st :: rest) (tFS K J ds ds2 (ak m1 m2)):=(jB h1 h2).imp fun _ _ _=>EG
theorem A0 (h1:PS X st (tFS K J ds ds1 m1)):PSs X [st] (tFS K J ds ds1 m1):=kS h1
theorem A9 (he:PE X e (tF K false ds ds1 d f)) (hs:swapsWith e none pos.line X.env=pure false):PS X (.Expr e pos) (tFS K J ds ds1 (bY f)):=(Ao he hs).imp fun _ _ _=>EL
theorem A7 (he:PE X e (tF K false ds ds1 J.dr f)) (hd:leD J.dsr ds1=true):PS X (.Return (some e) pos) (tFS K J ds ds' (aC f)):=(DU he).imp fun _ _ _=>EH hd
theorem rD:PS X st (tFS K J ds ds' dD):=ps_never.imp fun _ _ _=>tE
theorem EM (hc:PT X c (tFT K false ds ds1 c1)) (ha:PSs X body (tFS K J ds1 ds2 m1)) (hb:PSs X bodyB (tFS K J ds1 ds2 m2)):PS X (.If c body bodyB pos) (tFS K J ds ds2 (sIf c1 m1 m2)):=(zC hc ha hb).imp fun _ _ _=>F8
theorem A6 {x:Str} {pos':Pos} (hN:X.N.Nodup) (hi:X.N[i]?=some x) (hx:Loc X.env.scope x) (he:PE X e (tF K false ds ds1 d f)) (hds:ds1.set i d=ds') (hl:i < ds1.length) (hk:i ∉ J.lk)
  (hs:swapsWith e (some (.Name x pos')) pos.line X.env=pure false) (hf:X.fn x=true∨X.env.scope.names.lookup x=some .local) :
  PS X (.Assign [.Name x pos'] e pos) (tFS K J ds ds' (aq i f)):=by
 subst hds
 exact (DT hN hi hx he hs hf).imp fun _ _ _=>rA hl hk
theorem rC {x:Str} {spos pos':Pos} {elt:Expr} {ifs:List Expr} {scope:Scope} {ns:List Str} {js:List (Option Nat)} {cd:Nat} (hN:X.N.Nodup) (hi':X.N[i]?=some x) (hx:X.env.scope.names.lookup x=some .local) (B:BlkOkC X scope ns js) (hc:X.calm=true) (hi:PI X tg iter (tFI K false ds ds1 fi))
  (hg:∀ C cl s₀ H₀ fp,PG (aR X scope ns C cl s₀ H₀ fp) tg (tFG K lk dsi dsi g)) (ht:∀ C cl s₀ H₀ fp,PTs (aR X scope ns C cl s₀ H₀ fp) ifs (tFT K q dsi dsi c1)) (he:∀ C cl s₀ H₀ fp,PE (aR X scope ns C cl s₀ H₀ fp) elt (tF K q dsi dsi cd f))
  (hds:ds1.set i d=ds') (hcap:fV ds1 js dsi=true) (hd:dn d=cd) (hz:d≠0) (hlk:lk=fU js 0) (hl:i < ds1.length) (hk:i ∉ J.lk)
  (hsw:swapsWith (.ListComp elt [⟨tg,iter,ifs,0⟩] scope pos) (some (.Name x pos')) spos.line X.env=pure true)
  (hs:∀ x,foldedSetIterable iter X.env x=pure x):PS X (.Assign [.Name x pos'] (.ListComp elt [⟨tg,iter,ifs,0⟩] scope pos) spos) (tFS K J ds ds' (aq i (eLC q fi g c1 f js))):=by
 subst hds
 exact (qH hN hi' hx B hc hi hg ht he hsw hs).imp fun D σ H h=>Fj (p:=false) hcap hd hz hlk (rA (p:=false && q) hl hk h)
theorem tG {c:Nat} {x:Str} {spos:Pos} {k:Expr} (hN:X.N[i]?=some x) (hv:Vis X.env.scope x) (he:PE X e (tF K false ds ds1 c fe)) (hk:PE X k (tF K false ds1 ds2 d2 fk)) (h1:ds2[i]?=some d) (hz:d≠0) (hc:dn d=c)
  (hdb:(x == ("__debug__" : Str))=false) (hcd:(x == ("__classdict__" : Str))=false)
  (ha:∀ v,assign (.Subscript (.Name x px) k spos) X.env v=(do
   let ov ← holding [v] (eval (.Name x px) X.env)
   let iv ← holding [v,ov] (eval k X.env)
   standAt spos
   holding [v,ov,iv] (setItem ov iv v)
   release [v,ov,iv] []))
  (hs:swapsWithSole [.Subscript (.Name x px) k spos] e pos.line X.env=pure false) (hw:swappedStores [.Subscript (.Name x px) k spos] e X.env=pure none)
  (h2:(assignEach [.Subscript (.Name x px) k spos] X.env).map (·.2)=[assign (.Subscript (.Name x px) k spos) X.env]) :
  PS X (.Assign [.Subscript (.Name x px) k spos] e pos) (tFS K J ds ds2 (dC i fk fe)) :=
 (DX he (DZ (dF hN hv hdb hcd) hk sv ha) hs hw h2).imp fun _ _ _=>A2 h1 hz hc
theorem tO {x:Str} (hN:X.N.Nodup) (hi:X.N[i]?=some x) (hx:Loc X.env.scope x) (hds:ds.set i 0=ds') (hl:i < ds.length) (hk:i ∉ lk) (hf:X.fn x=true∨X.env.scope.names.lookup x=some .local) :
  PG X (.Name x pos) (tFG K lk ds ds' (gN i)):=by
 subst hds
 exact (Av hN hi hx hf).imp fun _ _ _ _=>Bn hl hk
theorem tM:PGs X [] (eI K lk ds ds gs0):=pgs_nil.imp fun _ _ _ _=>Bk
theorem rH (h1:PG X e (tFG K lk ds ds1 g)) (h2:PGs X es (eI K lk ds1 ds2 gs)) (hs:(assignEach (e :: es) X.env).map (·.2)=assign e X.env :: (assignEach es X.env).map (·.2)):PGs X (e :: es) (eI K lk ds ds2 (gsC g gs)):=(sE h1 h2 hs).imp fun _ _ _ _=>tN
theorem AN {g1 g2:MG}:∀ ts en,(∃ en',gsC g1 (gsC g2 gs0) ts en=some en')→ts.length=2:=fun ts en ⟨en',h⟩=>by
 match ts,h with
 | [],h=>cases h
 | [_],h =>
  obtain ⟨_,_,h⟩:=Option.bind_eq_some_iff.mp h
  cases h
 | [_,_],_=>rfl
 | a :: b :: c :: r,h =>
  obtain ⟨_,_,h⟩:=Option.bind_eq_some_iff.mp h
  obtain ⟨_,_,h⟩:=Option.bind_eq_some_iff.mp h
  cases h
theorem Bm {k n:Nat} (hK:X.K=K) (hc:X.calm=true) (h:PGs X es (eI K lk ds ds1 gs)) (hl:∀ ts en,(∃ en',gs ts en=some en')→ts.length=n) (hn:(assignEach es X.env).length=n) (hst:(assignEach es X.env).findIdx? (·.1)=none) :
  PG X (.Tuple es k pos) (tFG K lk ds ds1 (gT gs)):=by
 subst hK
 exact (DY hc h hn hst).imp fun _ _ _ _=>EW hl
theorem A8 (hc:X.calm=true) (hi:PI X tg iter (tFI K false ds ds1 fi)) (hg:PG X tg (tFG K J.lk ds1 ds2 g)) (hb:PSs X body (tFS K { J with dsl:=ds1 } ds2 ds1 m)) (hp:PassesOwn (model X.prog X.w) X.A X.env X.xe)
  (hs:∀ x,foldedSetIterable iter X.env x=pure x):PS X (.For tg iter body [] pos) (tFS K J ds ds1 (dk fi g m)):=(DW hp hc hi hg hb hs).imp fun _ _ _=>EK
theorem rB (hc:PT X c (tFT K false ds ds1 c1)) (hb:PSs X body (tFS K { J with dsl:=ds } ds1 ds m)) (hp:PassesOwn (model X.prog X.w) X.A X.env X.xe):PS X (.While c body [] pos) (tFS K J ds ds1 (bG c1 m)):=(sy hp hc hb).imp fun _ _ _=>tz
end
def zx:D→Option (List D)
 | .list ts=>some ts
 | .tuple ts=>some ts
 | .str z=>some ((li z).map fun c=>.str (mk1 c))
 | _=>none
def bt (f:ME):MI:=fun en=>(f en).bind fun r=>(zx r.1).map fun ts=>(ts,r.2)
section
variable {K:PySem.W.Frag} {O O1:AS} {H0 H:Hp} {ts:List D} {vs:List V} {a:Addr} {F:AS}
theorem dw {O O1:AS} (h1:∀ a o,H0 a=some o→¬ O a→H a=some o) (h2:∀ a,O1 a→O a∨H0 a=none):Mv O O1 NoA H0 H:=⟨fun a o q z=>z.elim (h1 a o q) fun z=>z.elim,h2⟩
theorem qv (h:FzL K O H0 a vs) (ho:Ows K O H0 ts 0 vs NoA):jR K O H0 (Itl K a) ts:=fun i H O1 h1 h2 h3=>by
 have sq:=(h.mv (dw h1 h2)).sq
 refine ⟨fun t ht=>?_,fun hl=>⟨vs,sq,by rw [ho.len]; omega⟩⟩
 obtain ⟨v,hv,ov⟩:=ho.get ht
 refine ⟨⟨vs,v,sq,hv⟩,fun x H1 ⟨e,y⟩=>?_⟩
 subst e
 have e2:=y vs sq
 rw [hv] at e2
 cases e2
 exact ⟨fun _ _ q=>q,Ow.mv (dw h1 h2) t (fun _ z=>z) ov⟩
theorem sf (h:FzT K O H0 a vs) (ho:Ows K O H0 ts 0 vs NoA):jR K O H0 (Itt K a) ts:=fun i H O1 h1 h2 h3=>by
 have sq:=(h.mv (dw h1 h2)).sq
 refine ⟨fun t ht=>?_,fun hl=>⟨vs,sq,by rw [ho.len]; omega⟩⟩
 obtain ⟨v,hv,ov⟩:=ho.get ht
 refine ⟨⟨vs,v,sq,hv⟩,fun x H1 ⟨e,y⟩=>?_⟩
 subst e
 have e2:=y vs sq
 rw [hv] at e2
 cases e2
 exact ⟨fun _ _ q=>q,Ow.mv (dw h1 h2) t (fun _ z=>z) ov⟩
theorem sg {z:Str}:jR K O H0 (Its z) ((li z).map fun c=>.str (mk1 c)):=fun i H O1 h1 h2 h3=>by
 refine ⟨fun t ht=>?_,fun hl=>?_⟩
 ·rw [List.getElem?_map] at ht
  obtain ⟨c,hc,e⟩:=Option.map_eq_some_iff.mp ht
  have hi:i < z.cps.size:=by
   have:=(List.getElem?_eq_some_iff.mp hc).1
   simpa [li] using this
  have hc':z.cps[i]?=some c:=by
   have:z.cps.toList[i]?=some c:=hc
   simpa using this
  refine ⟨hi,fun x H1 ⟨e1,c',e2,e3⟩=>?_⟩
  subst e1 e e3
  rw [hc'] at e2
  cases e2
  exact ⟨fun _ _ q=>q,rfl⟩
 ·have:z.cps.size=i:=by
   rw [List.length_map] at hl
   simpa [li] using hl
  show z.cps.size≤i
  omega
theorem si {lo:Int} {n:Nat}:jR K O H0 (Itr lo n) ((List.range n).map fun k=>.int (lo+(k:Nat))):=fun i H O1 h1 h2 h3=>by
 refine ⟨fun t ht=>?_,fun hl=>?_⟩
 ·rw [List.getElem?_map] at ht
  obtain ⟨c,hc,e⟩:=Option.map_eq_some_iff.mp ht
  have hi:=(List.getElem?_eq_some_iff.mp hc).1
  rw [List.length_range] at hi
  rw [List.getElem?_range hi] at hc
  cases hc
  refine ⟨hi,fun x H1 ⟨e1,e2⟩=>?_⟩
  subst e1 e e2
  exact ⟨fun _ _ q=>q,rfl⟩
 ·rw [List.length_map,List.length_range] at hl
  show n≤i
  omega
theorem oz {t:D} {v:V} {i:Nat} {p:Addr} (hp:H p=none) (h3:∀ a,O1 a→∃ o,H a=some o) (ov:Ow K O1 H t 0 v NoA):(∀ a o,H a=some o→upd H p (.tup [.int i,v]) a=some o)∧Ow K O1 (upd H p (.tup [.int (i:Nat),v])) (.tuple [.int i,t]) 0 (.ref p) NoA:=by
 have g:=(bL (o:=.tup [.int i,v]) hp).1
 refine ⟨g,p,[.int i,v],rfl,.inl ⟨rfl,⟨aJ,fun z=>?_⟩,.int i,[v],NoA,NoA,rfl,fun _ z=>z,fun _ z=>z,fun _ z=>z.elim,rfl,v,[],NoA,NoA,rfl,fun _ z=>z,fun _ z=>z,fun _ z=>z.elim,?_,rfl⟩⟩
 ·obtain ⟨o,q⟩:=h3 p z
  rw [hp] at q
  cases q
 ·exact Ow.mv (G:=NoA) ⟨fun a o q _=>g a o q,fun a z=>.inl z⟩ t (fun _ z=>z) ov
def de (ts:List D):List D:=ts.zipIdx.map fun p=>.tuple [.int (p.2:Nat),p.1]
theorem iH {i:Nat} {u:D} (h:(de ts)[i]?=some u):∃ t,ts[i]?=some t∧u=.tuple [.int (i:Nat),t]:=by
 unfold de at h
 rw [List.getElem?_map] at h
 obtain ⟨⟨t,k⟩,h1,h2⟩:=Option.map_eq_some_iff.mp h
 rw [List.getElem?_zipIdx] at h1
 obtain ⟨t',h3,h4⟩:=Option.map_eq_some_iff.mp h1
 cases h4
 refine ⟨t,h3,?_⟩
 rw [← h2,Nat.zero_add]
theorem iG:(de ts).length=ts.length:=by unfold de; rw [List.length_map,List.length_zipIdx]
theorem qw (h:FzL K O H0 a vs) (ho:Ows K O H0 ts 0 vs NoA):jR K O H0 (Ite K a) (de ts):=fun i H O1 h1 h2 h3=>by
 have sq:=(h.mv (dw h1 h2)).sq
 refine ⟨fun u hu=>?_,fun hl=>⟨vs,sq,by rw [iG] at hl; rw [ho.len]; omega⟩⟩
 obtain ⟨t,ht,rfl⟩:=iH hu
 obtain ⟨v,hv,ov⟩:=ho.get ht
 refine ⟨⟨vs,v,sq,hv⟩,fun x H1 ⟨p,v',e1,hp,e2,y⟩=>?_⟩
 have e3:=y vs sq
 rw [hv] at e3
 cases e3
 subst e1 e2
 exact oz hp h3 (Ow.mv (dw h1 h2) t (fun _ z=>z) ov)
theorem pb (h:FzT K O H0 a vs) (ho:Ows K O H0 ts 0 vs NoA):jR K O H0 (ItT K a) (de ts):=fun i H O1 h1 h2 h3=>by
 have sq:=(h.mv (dw h1 h2)).sq
 refine ⟨fun u hu=>?_,fun hl=>⟨vs,sq,by rw [iG] at hl; rw [ho.len]; omega⟩⟩
 obtain ⟨t,ht,rfl⟩:=iH hu
 obtain ⟨v,hv,ov⟩:=ho.get ht
 refine ⟨⟨vs,v,sq,hv⟩,fun x H1 ⟨p,v',e1,hp,e2,y⟩=>?_⟩
 have e3:=y vs sq
 rw [hv] at e3
 cases e3
 subst e1 e2
 exact oz hp h3 (Ow.mv (dw h1 h2) t (fun _ z=>z) ov)
end
def bu (fa:MA):MI:=fun en=>(fa en).bind fun r=>match r.1 with
 | [.inl (.int j)]=>if -(2 ^ 62)≤j∧j < 2 ^ 62 then some ((List.range j.toNat).map fun k=>.int (0+(k:Nat)),r.2) else none
 | _=>none
def G6 (fa:MA):MI:=fun en=>(fa en).bind fun r=>match r.1 with
 | [.inl (.int i),.inl (.int j)]=>if -(2 ^ 62)≤i∧i < 2 ^ 62∧-(2 ^ 62)≤j∧j < 2 ^ 62 then some ((List.range (j - i).toNat).map fun k=>.int (i+(k:Nat)),r.2) else none
 | _=>none
def iA (fa:MA):MI:=fun en=>(fa en).bind fun r=>match r.1 with
 | [.inl (.list ts)]=>some (de ts,r.2)
 | [.inl (.tuple ts)]=>some (de ts,r.2)
 | _=>none
section
variable {X:Cx} {K:PySem.W.Frag} {p:Bool} {ds ds1:List Nat} {d:Nat} {e tg l:Expr} {f:ME} {fa:MA} {sh:Sh}
theorem EV (hK:X.K=K) (hl:PE X l (tF K p ds ds1 d f)):PI X tg l (tFI K p ds ds1 (bt f)):=by
 subst hK
 intro pins s σ H R I h
 obtain ⟨Ox,en,Rg,ts,en',e,hf,k⟩:=h
 unfold bt at hf
 obtain ⟨⟨t,en1⟩,h1,hf⟩:=Option.bind_eq_some_iff.mp hf
 obtain ⟨ts',h2,hf⟩:=Option.map_eq_some_iff.mp hf
 cases hf
 refine thn (hl pins s σ H (fun v H1=>∃ R1,Post X.K p ds1 Ox σ H en Rg en1 H1 R1 NoA∧Ow X.K (Own R1 Ox) H1 t 0 v NoA) I ⟨Ox,en,Rg,t,en1,e,h1,fun v H1 R1 F P o=>⟨R1,P.less fun _ z=>z.elim,Ow.letgo P (fun _ z=>z) o⟩⟩) fun v s1 ⟨x,H1,I1,r1,R1,P,o⟩=>?_
 cases t with
 | list ts0 =>
  cases h2
  obtain ⟨a,vs,e1,⟨_,fz,ow⟩ | ⟨z,_⟩⟩:=o
  ·subst e1
   cases r1
   obtain ⟨its,rv,pl,hz⟩:=I1.list fz.sq
   refine wpAny_pyIter_list pl.isList ?_
   refine ⟨s1.heap.objs.size,[s1.heap.objs.size],_,_,H1,rfl,I1.kept (t':=s1.toks) fun b o e=>Heap.get?_push_of_some _ e,qx a _,⟨_,Heap.get?_push_size _ rfl,rfl,rfl⟩,fun b hb=>?_,k _ H1 R1 P (qv fz ow)⟩
   have e:b=s1.heap.objs.size:=by simpa using hb
   subst e
   exact I1.fpOk (Nat.le_refl _) (I1.hok.fresh (Nat.le_refl _))
  ·exact absurd rfl z
 | tuple ts0 =>
  cases h2
  obtain ⟨a,vs,e1,⟨_,fz,ow⟩ | ⟨z,_⟩⟩:=o
  ·subst e1
   cases r1
   obtain ⟨its,rv,pl,hz⟩:=I1.tuple fz.sq
   refine wpAny_pyIter_tuple (show s1.heap.IsTuple a its.toArray from pl) ?_
   refine ⟨s1.heap.objs.size,[s1.heap.objs.size],_,_,H1,rfl,I1.kept (t':=s1.toks) fun b o e=>Heap.get?_push_of_some _ e,pd a _,⟨_,Heap.get?_push_size _ rfl,rfl,rfl⟩,fun b hb=>?_,k _ H1 R1 P (sf fz ow)⟩
   have e:b=s1.heap.objs.size:=by simpa using hb
   subst e
   exact I1.fpOk (Nat.le_refl _) (I1.hok.fresh (Nat.le_refl _))
  ·exact absurd rfl z
 | str z =>
  cases h2
  have e1:x=.str z:=o
  subst e1
  obtain ⟨t,rfl⟩:=r1
  have fin:∀ (ty:String) (o:Obj),(ty="str_ascii_iterator"∨ty="str_iterator")→(s1.heap.push o).IsStrIter s1.heap.objs.size ty z t 0→PIE X pins σ tg R (.ref s1.heap.objs.size) { s1 with heap:=s1.heap.push o }:=fun ty o hty st=>by
   refine ⟨s1.heap.objs.size,[s1.heap.objs.size],_,_,H1,rfl,I1.kept (t':=s1.toks) fun b o e=>Heap.get?_push_of_some _ e,sj _ z t ty hty,st,fun b hb=>?_,k _ H1 R1 P sg⟩
   have e:b=s1.heap.objs.size:=by simpa using hb
   subst e
   exact I1.fpOk (Nat.le_refl _) (I1.hok.fresh (Nat.le_refl _))
  cases ha:z.cps.all (· < 128)
  ·exact wpAny_pyIter_wide ha (fin _ _ (.inr rfl) ⟨_,Heap.get?_push_size _ rfl,rfl,rfl⟩)
  ·exact wpAny_pyIter_ascii ha (fin _ _ (.inl rfl) ⟨_,Heap.get?_push_size _ rfl,rfl,rfl⟩)
 | _=>cases h2
theorem Bi {a:Expr} {px pos:Pos} (hg:Gl X "range") (hm:X.mg "range"=none) (ha:PA X [a] (tFA K p ds ds1 sh fa)) (hs:aN a=true):PI X tg (.Call (.Name "range" px) [a] [] pos) (tFI K p ds ds1 (bu fa)) :=
 (qJ hg hm ha (bQ hs)).imp fun σ H R ⟨Ox,en,Rg,ts,en',e,hf,k⟩=>by
  unfold bu at hf
  obtain ⟨⟨as,en1⟩,h1,hf⟩:=Option.bind_eq_some_iff.mp hf
  refine ⟨Ox,en,Rg,as,en1,e,h1,fun vs H1 R1 F P o=>?_⟩
  dsimp only at hf
  split at hf
  case h_2=>cases hf
  next j =>
  by_cases hj:-(2 ^ 62)≤j∧j < 2 ^ 62
  case neg=>rw [if_neg hj] at hf; cases hf
  rw [if_pos hj] at hf
  cases hf
  obtain ⟨v,r,d,dr,F1,F2,e1,e2,_,_,_,o1,o2⟩:=o
  obtain ⟨_,o2⟩:=o2
  subst e1 o2
  have ev:v=.int j:=o1
  subst ev
  exact ⟨j,rfl,hj.1,hj.2,k _ H1 R1 (P.less fun _ z=>z.elim) si⟩
theorem Bj {px pos:Pos} {elts:List Expr} {k:Nat} {tp:Pos} (hK:X.K=K) (hg:Gl X "enumerate") (hm:X.mg "enumerate"=none) (ha:PA X [l] (tFA K p ds ds1 sh fa)) (hs:starEach [l] X.env=[(false,eval l X.env)]) :
  PI X (.Tuple elts k tp) (.Call (.Name "enumerate" px) [l] [] pos) (tFI K p ds ds1 (iA fa)):=by
 subst hK
 intro pins s σ H R I h
 obtain ⟨Ox,en,Rg,ts,en',e,hf,k⟩:=h
 unfold iA at hf
 obtain ⟨⟨as,en1⟩,h1,hf⟩:=Option.bind_eq_some_iff.mp hf
 refine Call_ (iy I hg hm boot_enumerate (PyProof.Rows.callWith_type1 (thn (ha pos pins s σ H (fun vs H1=>∃ R1 t v,as=[.inl t]∧vs=[v]∧Post X.K p ds1 Ox σ H en Rg en1 H1 R1 NoA∧Ow X.K (Own R1 Ox) H1 t 0 v NoA) I ⟨Ox,en,Rg,as,en1,e,h1,fun vs H1 R1 F P o=>?_⟩) fun us s1 ⟨vs,H1,I1,r1,R1,t,v,ea,ev,P,o⟩=>?_) hs rfl))
 ·have one:∃ t,as=[.inl t]:=by
   dsimp only at hf
   split at hf
   ·exact ⟨_,rfl⟩
   ·exact ⟨_,rfl⟩
   ·cases hf
  obtain ⟨t,rfl⟩:=one
  obtain ⟨v,r,d,dr,F1,F2,e1,e2,s1,_,_,o1,o2⟩:=o
  obtain ⟨_,o2⟩:=o2
  subst o2
  exact ⟨R1,t,v,rfl,e1,P.less fun _ z=>z.elim,Ow.letgo P s1 o1⟩
 subst ea ev
 obtain ⟨u,rfl,ru⟩:=da r1
 cases t with
 | list ts0 =>
  cases hf
  obtain ⟨a,vs,e1,⟨_,fz,ow⟩ | ⟨z,_⟩⟩:=o
  ·subst e1
   cases ru
   obtain ⟨its,rv,pl,hz⟩:=I1.list fz.sq
   refine call_enumerate_list pl.isList fun h' hE hI hsz hk=>?_
   refine wpAny_pyIter_enum hE ?_
   have I2:Inv X pins σ H1 { s1 with heap:=h' }:=I1.kept (t':=s1.toks) hk
   refine ⟨s1.heap.objs.size+1,[s1.heap.objs.size+1,s1.heap.objs.size],_,_,H1,rfl,I2,qy a _ _ (Nat.succ_ne_self _),⟨⟨_,hE⟩,hI⟩,fun b hb=>?_,k _ H1 R1 P (qw fz ow)⟩
   have hb':b=s1.heap.objs.size+1∨b=s1.heap.objs.size:=by simpa using hb
   rcases hb' with rfl | rfl
   ·exact I1.fpOk (Nat.le_succ _) (I1.hok.fresh (Nat.le_succ _))
   ·exact I1.fpOk (Nat.le_refl _) (I1.hok.fresh (Nat.le_refl _))
  ·exact absurd rfl z
 | tuple ts0 =>
  cases hf
  obtain ⟨a,vs,e1,⟨_,fz,ow⟩ | ⟨z,_⟩⟩:=o
  ·subst e1
   cases ru
   obtain ⟨its,rv,pt,hz⟩:=I1.tuple fz.sq
   have hT:s1.heap.IsTuple a its.toArray:=pt
   have hlt:a < s1.heap.objs.size:=by
    obtain ⟨o,e1,_⟩:=id hT
    exact Heap.lt_size e1
   refine mn hT fun h' hE hI hsz hk=>?_
   refine wpAny_pyIter_enum hE ?_
   have I2:Inv X pins σ H1 { s1 with heap:=h' }:=I1.kept (t':=s1.toks) hk
   refine ⟨s1.heap.objs.size+1,[s1.heap.objs.size+1,s1.heap.objs.size],_,_,H1,rfl,I2,ph a _ _ (Nat.succ_ne_self _) (Nat.ne_of_lt hlt),⟨⟨_,hE⟩,hI⟩,fun b hb=>?_,k _ H1 R1 P (pb fz ow)⟩
   have hb':b=s1.heap.objs.size+1∨b=s1.heap.objs.size:=by simpa using hb
   rcases hb' with rfl | rfl
   ·exact I1.fpOk (Nat.le_succ _) (I1.hok.fresh (Nat.le_succ _))
   ·exact I1.fpOk (Nat.le_refl _) (I1.hok.fresh (Nat.le_refl _))
  ·exact absurd rfl z
 | _=>cases hf
end
end L2
namespace L2
open PySem PySem.Spec PyProof.Rows
theorem NewTo.refl {H:Hp}:NewTo H H NoA:=⟨fun _ _ q=>q,fun _ z=>z.elim⟩
theorem OpR.imp {X:Cx} {fn:Value→Value→Sem Value} {r r':R2} (h:OpR X fn r) (hi:∀ x y H Q,r' x y H Q→r x y H Q):OpR X fn r':=fun pins s σ H x y v u Q I rx ry q=>h pins s σ H x y v u Q I rx ry (hi _ _ _ _ q)
theorem OpR.or' {X:Cx} {fn:Value→Value→Sem Value} {r r':R2} (h:OpR X fn r) (h':OpR X fn r'):OpR X fn (fun x y H Q=>r x y H Q∨r' x y H Q):=fun pins s σ H x y v u Q I rx ry q=>q.elim (h pins s σ H x y v u Q I rx ry) (h' pins s σ H x y v u Q I rx ry)
theorem UnR.imp {X:Cx} {fn:Value→Sem Value} {r r':V→Hp→VK→Prop} (h:UnR X fn r) (hi:∀ x H Q,r' x H Q→r x H Q):UnR X fn r':=fun pins s σ H x v Q I rx q=>h pins s σ H x v Q I rx (hi _ _ _ q)
theorem CallR.imp {X:Cx} {fn:Value} {r r':List V→Hp→VK→Prop} (h:CallR X fn r) (hi:∀ x H Q,r' x H Q→r x H Q):CallR X fn r':=fun pins s σ H x v Q I rx q=>h pins s σ H x v Q I rx (hi _ _ _ q)
theorem CallR.or' {X:Cx} {fn:Value} {r r':List V→Hp→VK→Prop} (h:CallR X fn r) (h':CallR X fn r'):CallR X fn (fun x H Q=>r x H Q∨r' x H Q):=fun pins s σ H x v Q I rx q=>q.elim (h pins s σ H x v Q I rx) (h' pins s σ H x v Q I rx)
theorem IxR.imp {X:Cx} {r r':R2} (h:IxR X r) (hi:∀ x y H Q,r' x y H Q→r x y H Q):IxR X r':=fun value slice pins s σ H x y v u Q I rx ry q=>h value slice pins s σ H x y v u Q I rx ry (hi _ _ _ _ q)
section
variable {X:Cx} {K:PySem.W.Frag} {O:AS} {H:Hp} {ts us:List D} {vs ws:List V} {x y:V} {d:Nat} {Q:VK}
theorem cI {l:Addr} (hl:H l=none) (hd:∀ a,O a→∃ o,H a=some o) (h:Ows K O H ts 0 vs NoA):NewTo H (upd H l (.lst vs)) (fun b=>b=l)∧Ow K (U (fun b=>b=l) O) (upd H l (.lst vs)) (.list ts) 1 (.ref l) (fun b=>b=l):=by
 refine ⟨bL hl,l,vs,rfl,.inr ⟨by decide,aJ,rfl,NoA,fun _ z=>z.elim,?_⟩⟩
 refine Ows.mv (G:=NoA) ⟨fun a o q _=>(bL (o:=.lst vs) hl).1 a o q,fun a z=>?_⟩ ts (fun _ z=>z) h
 rcases z with z | z
 ·exact .inr (by rw [show a=l from z]; exact hl)
 ·exact .inl z
theorem oA {l:Addr} (hl:H l=none) (hd:∀ a,O a→∃ o,H a=some o) (h:Ows K O H ts 0 vs NoA):NewTo H (upd H l (.tup vs)) NoA∧Ow K (U NoA O) (upd H l (.tup vs)) (.tuple ts) 0 (.ref l) NoA:=by
 refine ⟨⟨(bL hl).1,fun _ z=>z.elim⟩,l,vs,rfl,.inl ⟨rfl,⟨aJ,fun z=>?_⟩,?_⟩⟩
 ·rcases z with z | z
  ·exact z
  ·obtain ⟨o,q⟩:=hd l z
   rw [hl] at q
   cases q
 ·refine Ows.mv (G:=NoA) ⟨fun a o q _=>(bL (o:=.tup vs) hl).1 a o q,fun a z=>?_⟩ ts (fun _ z=>z) h
  rcases z with z | z
  ·exact z.elim
  ·exact .inl z
theorem Ows.app:∀ {ts:List D} {vs:List V},Ows K O H ts 0 vs NoA→Ows K O H us 0 ws NoA→Ows K O H (ts++us) 0 (vs++ws) NoA
 | [],_,h,h2=>by rw [show _=[] from h]; exact h2
 | t :: ts,_,h,h2=>by
  obtain ⟨v,r,F1,F2,e,_,_,_,h4,h5⟩:=h
  subst e
  exact ⟨v,r++ws,NoA,NoA,rfl,fun _ z=>z,fun _ z=>z,fun _ z=>z.elim,Ow.any0 t h4,Ows.app (Ows.any0 ts h5) h2⟩
theorem Ows.drop:∀ {ts:List D} {vs:List V} (n:Nat),Ows K O H ts 0 vs NoA→Ows K O H (ts.drop n) 0 (vs.drop n) NoA
 | ts,vs,0,h=>h
 | [],_,n+1,h=>by rw [show _=[] from h]; rfl
 | t :: ts,_,n+1,h=>by
  obtain ⟨v,r,F1,F2,e,_,_,_,h4,h5⟩:=h
  subst e
  exact Ows.drop n (Ows.any0 ts h5)
theorem Ows.take:∀ {ts:List D} {vs:List V} (n:Nat),Ows K O H ts 0 vs NoA→Ows K O H (ts.take n) 0 (vs.take n) NoA
 | ts,vs,0,h=>rfl
 | [],_,n+1,h=>by rw [show _=[] from h]; rfl
 | t :: ts,_,n+1,h=>by
  obtain ⟨v,r,F1,F2,e,_,_,_,h4,h5⟩:=h
  subst e
  exact ⟨v,r.take n,NoA,NoA,rfl,fun _ z=>z,fun _ z=>z,fun _ z=>z.elim,Ow.any0 t h4,Ows.take n (Ows.any0 ts h5)⟩
theorem Ow.lst0 {v:V} (h:Ow K O H (.list ts) 0 v NoA):∃ a vs,v=.ref a∧FzL K O H a vs∧Ows K O H ts 0 vs NoA:=by
 obtain ⟨a,vs,e,⟨_,h1,h2⟩ | ⟨z,_⟩⟩:=h
 ·exact ⟨a,vs,e,h1,h2⟩
 ·exact absurd rfl z
theorem Ow.tup0 {v:V} (h:Ow K O H (.tuple ts) 0 v NoA):∃ a vs,v=.ref a∧FzT K O H a vs∧Ows K O H ts 0 vs NoA:=by
 obtain ⟨a,vs,e,⟨_,h1,h2⟩ | ⟨z,_⟩⟩:=h
 ·exact ⟨a,vs,e,h1,h2⟩
 ·exact absurd rfl z
theorem Ows.one {t:D} (h:Ows K O H [t] 0 vs NoA):∃ v,vs=[v]∧Ow K O H t 0 v NoA:=by
 obtain ⟨v,r,F1,F2,e,_,_,_,h4,h5⟩:=h
 rw [show r=[] from h5] at e
 exact ⟨v,e,Ow.any0 t h4⟩
theorem Ows.two {t t2:D} (h:Ows K O H [t,t2] 0 vs NoA):∃ v w,vs=[v,w]∧Ow K O H t 0 v NoA∧Ow K O H t2 0 w NoA:=by
 obtain ⟨v,r,F1,F2,e,_,_,_,h4,h5⟩:=h
 obtain ⟨w,e2,h6⟩:=Ows.one (Ows.any0 [t2] h5)
 subst e2
 exact ⟨v,w,e,Ow.any0 t h4,h6⟩
def aY:D→D→Option D
 | .int a,.int b=>some (.int (a+b))
 | .str a,.str b=>if a.length+b.length≤sizeLine then some (.str (a++b)) else none
 | _,_=>none
theorem bM:OpR X (binaryOp .Add) (rF2 K aY 3):=(op_add.or' pv).imp fun x y H Q ⟨O,a,b,t,oa,ob,hd,hg,k⟩=>by
 cases a with
 | int i=>cases b with
  | int j=>cases hg; exact .inl ⟨i,j,oa,ob,k _ H NoA .refl rfl⟩
  | _=>cases hg
 | str i=>cases b with
  | str j =>
   dsimp only [aY] at hg
   by_cases hl:i.length+j.length≤sizeLine
   ·rw [if_pos hl] at hg; cases hg; exact .inr ⟨i,j,oa,ob,hl,k _ H NoA .refl rfl⟩
   ·rw [if_neg hl] at hg; cases hg
  | _=>cases hg
 | _=>cases hg
def fj (g:Int→Int→Option D):D→D→Option D
 | .int a,.int b=>g a b
 | _,_=>none
theorem ce {g:Int→Int→Option D} {a b t:D} (h:fj g a b=some t):∃ i j,a=.int i∧b=.int j∧g i j=some t:=by
 cases a with
 | int i=>cases b with
  | int j=>exact ⟨i,j,rfl,rfl,h⟩
  | _=>cases h
 | _=>cases h
def gA:D→D→Option D:=fj fun a b=>some (.int (a - b))
theorem kl:OpR X (binaryOp .Sub) (rF2 K gA 3):=op_sub.imp fun x y H Q ⟨O,a,b,t,oa,ob,hd,hg,k⟩=>by
 obtain ⟨i,j,rfl,rfl,h⟩:=ce hg
 cases h
 exact ⟨i,j,oa,ob,k _ H NoA .refl rfl⟩
instance (i j:Int):Decidable (CMul i j):=by unfold CMul; exact inferInstance
instance (i j:Int):Decidable (eQ i j):=by unfold eQ; exact inferInstance
instance (i j:Int):Decidable (ic i j):=by unfold ic; exact inferInstance
def bE:D→D→Option D:=fj fun a b=>if CMul a b then some (.int (a * b)) else none
theorem eE:OpR X (binaryOp .Mult) (rF2 K bE 3):=op_mul.imp fun x y H Q ⟨O,a,b,t,oa,ob,hd,hg,k⟩=>by
 obtain ⟨i,j,rfl,rfl,h⟩:=ce hg
 by_cases hc:CMul i j
 ·rw [if_pos hc] at h; cases h; exact ⟨i,j,oa,ob,hc,k _ H NoA .refl rfl⟩
 ·rw [if_neg hc] at h; cases h
def cg:D→D→Option D:=fj fun a b=>if eQ a b then some (.int (a / b)) else none
theorem oQ:OpR X (binaryOp .FloorDiv) (rF2 K cg 3):=op_fdiv.imp fun x y H Q ⟨O,a,b,t,oa,ob,hd,hg,k⟩=>by
 obtain ⟨i,j,rfl,rfl,h⟩:=ce hg
 by_cases hc:eQ i j
 ·rw [if_pos hc] at h; cases h; exact ⟨i,j,oa,ob,hc,k _ H NoA .refl rfl⟩
 ·rw [if_neg hc] at h; cases h
def be:D→D→Option D:=fj fun a b=>if 0 < b then some (.int (a % b)) else none
theorem fm:OpR X (binaryOp .Mod) (rF2 K be 3):=op_mod.imp fun x y H Q ⟨O,a,b,t,oa,ob,hd,hg,k⟩=>by
 obtain ⟨i,j,rfl,rfl,h⟩:=ce hg
 by_cases hc:0 < j
 ·rw [if_pos hc] at h; cases h; exact ⟨i,j,oa,ob,hc,k _ H NoA .refl rfl⟩
 ·rw [if_neg hc] at h; cases h
def kT:D→D→Option D:=fj fun a b=>if ic a b then some (.int (a ^ b.toNat)) else none
theorem EO:OpR X (binaryOp .Pow) (rF2 K kT 3):=op_pow.imp fun x y H Q ⟨O,a,b,t,oa,ob,hd,hg,k⟩=>by
 obtain ⟨i,j,rfl,rfl,h⟩:=ce hg
 by_cases hc:ic i j
 ·rw [if_pos hc] at h; cases h; exact ⟨i,j,oa,ob,hc,k _ H NoA .refl rfl⟩
 ·rw [if_neg hc] at h; cases h
def ltI:D→D→Option D:=fj fun a b=>some (.bool (decide (a < b)))
def leI:D→D→Option D:=fj fun a b=>some (.bool (decide (a≤b)))
def gtI:D→D→Option D:=fj fun a b=>some (.bool (decide (b < a)))
def geI:D→D→Option D:=fj fun a b=>some (.bool (decide (b≤a)))
theorem zS:OpR X (compareOp .Lt) (rF2 K ltI 3):=op_lt.imp fun x y H Q ⟨O,a,b,t,oa,ob,hd,hg,k⟩=>by
 obtain ⟨i,j,rfl,rfl,h⟩:=ce hg
 cases h
 exact ⟨i,j,oa,ob,k _ H NoA .refl rfl⟩
theorem zT:OpR X (compareOp .LtE) (rF2 K leI 3):=op_le.imp fun x y H Q ⟨O,a,b,t,oa,ob,hd,hg,k⟩=>by
 obtain ⟨i,j,rfl,rfl,h⟩:=ce hg
 cases h
 exact ⟨i,j,oa,ob,k _ H NoA .refl rfl⟩
theorem zU:OpR X (compareOp .Gt) (rF2 K gtI 3):=op_gt.imp fun x y H Q ⟨O,a,b,t,oa,ob,hd,hg,k⟩=>by
 obtain ⟨i,j,rfl,rfl,h⟩:=ce hg
 cases h
 exact ⟨i,j,oa,ob,k _ H NoA .refl rfl⟩
theorem zV:OpR X (compareOp .GtE) (rF2 K geI 3):=op_ge.imp fun x y H Q ⟨O,a,b,t,oa,ob,hd,hg,k⟩=>by
 obtain ⟨i,j,rfl,rfl,h⟩:=ce hg
 cases h
 exact ⟨i,j,oa,ob,k _ H NoA .refl rfl⟩
def e9:D→Bool
 | .none=>true
 | _=>false
theorem nh {a:D} {F:AS} (h:Ow K O H a d x F):decide (x=.non)=e9 a:=by
 cases a with
 | none=>rw [show x=.non from h]; rfl
 | bool b=>rw [show x=.bl b from h]; rfl
 | int b=>rw [show x=.int b from h]; rfl
 | str b=>rw [show x=.str b from h]; rfl
 | list ts=>obtain ⟨a,vs,e,_⟩:=h; rw [e]; rfl
 | tuple ts=>obtain ⟨a,vs,e,_⟩:=h; rw [e]; rfl
 | dict ts=>obtain ⟨a,vs,e,_⟩:=h; rw [e]; rfl
def isN:D→D→Option D
 | a,.none=>some (.bool (e9 a))
 | _,_=>none
def cV:D→D→Option D
 | a,.none=>some (.bool (!e9 a))
 | _,_=>none
theorem nr:OpR X (compareOp .Is) (rF2 K isN 3):=op_isN.imp fun x y H Q ⟨O,a,b,t,oa,ob,hd,hg,k⟩=>by
 cases b with
 | none=>cases hg; exact ⟨ob,by rw [nh oa]; exact k _ H NoA .refl rfl⟩
 | _=>cases hg
theorem gp:OpR X (compareOp .IsNot) (rF2 K cV 3):=op_notN.imp fun x y H Q ⟨O,a,b,t,oa,ob,hd,hg,k⟩=>by
 cases b with
 | none=>cases hg; exact ⟨ob,by rw [nh oa]; exact k _ H NoA .refl rfl⟩
 | _=>cases hg
def tm:D→D→Option D
 | .str a,.str b=>some (.bool (gm b a))
 | _,_=>none
def GY:D→D→Option D
 | .str a,.str b=>some (.bool (!gm b a))
 | _,_=>none
theorem ET:OpR X (compareOp .In) (rF2 K tm 3):=op_inS.imp fun x y H Q ⟨O,a,b,t,oa,ob,hd,hg,k⟩=>by
 cases a with
 | str i=>cases b with
  | str j=>cases hg; exact ⟨i,j,oa,ob,k _ H NoA .refl rfl⟩
  | _=>cases hg
 | _=>cases hg
def ixA:D→D→Option D
 | .list ts,.int n=>atI ts n
 | .tuple ts,.int n=>atI ts n
 | .str z,.int n=>if z.length≤sizeLine then (atI z.cps.toList n).map fun c=>.str (mk1 c) else none
 | _,_=>none
theorem a8 (hK:X.K=K):IxR X (rF2 K ixA 0):=by
 subst hK
 refine ix_seq.imp fun x y H Q ⟨O,a,b,t,oa,ob,hd,hg,k⟩=>?_
 cases b with
 | int n =>
  cases a with
  | list ts =>
   obtain ⟨a,vs,e,fz,ow⟩:=oa.lst0
   obtain ⟨v,h1,h2⟩:=ow.atI hg
   exact .inl ⟨a,vs,n,v,e,ob,fz.sq,h1,k v H NoA .refl (by rw [fu]; exact h2)⟩
  | tuple ts =>
   obtain ⟨a,vs,e,fz,ow⟩:=oa.tup0
   obtain ⟨v,h1,h2⟩:=ow.atI hg
   exact .inr (.inl ⟨a,vs,n,v,e,ob,fz.sq,h1,k v H NoA .refl (by rw [fu]; exact h2)⟩)
  | str z =>
   dsimp only [ixA] at hg
   by_cases hl:z.length≤sizeLine
   ·rw [if_pos hl] at hg
    obtain ⟨c,h1,h2⟩:=Option.map_eq_some_iff.mp hg
    cases h2
    exact .inr (.inr ⟨z,n,c,oa,ob,hl,h1,k _ H NoA .refl rfl⟩)
   ·rw [if_neg hl] at hg; cases hg
  | _=>cases hg
 | _=>cases a <;> cases hg
def ixT:D→D→Option D
 | .str z,.int n=>if z.length≤sizeLine then (atI z.cps.toList n).map fun c=>.str (mk1 c) else none
 | _,_=>none
theorem ER:IxR X (rF2 K ixT 3):=by
 refine ix_str.imp fun x y H Q ⟨O,a,b,t,oa,ob,hd,hg,k⟩=>?_
 cases a with
 | str z=>cases b with
  | int n =>
   dsimp only [ixT] at hg
   by_cases hl:z.length≤sizeLine
   ·rw [if_pos hl] at hg
    obtain ⟨c,h1,h2⟩:=Option.map_eq_some_iff.mp hg
    cases h2
    exact ⟨z,n,c,oa,ob,hl,h1,k _ H NoA .refl rfl⟩
   ·rw [if_neg hl] at hg; cases hg
  | _=>cases hg
 | _=>cases hg
def ly:D→D→Option D
 | .list a,.list b=>if a.length+b.length≤sizeLine then some (.list (a++b)) else none
 | _,_=>none
def Hu:D→D→Option D
 | .tuple a,.tuple b=>if a.length+b.length≤sizeLine then some (.tuple (a++b)) else none
 | _,_=>none
end
end L2
namespace L2
open PySem PySem.Spec PyProof.Rows
def grd {α:Type} (c:Prop) [Decidable c] (t:α):Option α:=if c then some t else none
theorem gO {α:Type} {c:Prop} [Decidable c] {t u:α} (h:grd c t=some u):c∧t=u:=by
 unfold grd at h
 by_cases hc:c
 ·rw [if_pos hc] at h; exact ⟨hc,Option.some.inj h⟩
 ·rw [if_neg hc] at h; cases h
section
variable {X:Cx} {K:PySem.W.Frag} {O:AS} {H:Hp} {ts us:List D} {vs ws:List V} {x y:V} {d:Nat} {Q:VK}
def FI (K:PySem.W.Frag):R2:=fun x y H Q=>∃ l b xs zs,x=.ref l∧y=.ref b∧SqL K H l xs∧SqL K H b zs∧xs.length+zs.length≤sizeLine∧∀ p,H p=none→Q (.ref p) (upd H p (.lst (xs++zs)))
theorem op_catL:OpR X (binaryOp .Add) (FI X.K):=by
 intro pins s σ H x y v u Q I rx ry h
 obtain ⟨l,b,xs,zs,rfl,rfl,hH,hB,hz,q⟩:=h
 cases rx
 cases ry
 obtain ⟨its,r,⟨⟨c1,dd,da1,sl⟩,n,ho,hc,hdd,hda⟩,_⟩:=I.list hH
 obtain ⟨its2,r2,⟨⟨c2,dd2,da2,sl2⟩,n2,ho2,hc2,hdd2,hda2⟩,_⟩:=I.list hB
 have hl:=r.length
 have hl2:=r2.length
 simp only at hc hda hc2 hda2
 subst hc hda hc2 hda2
 refine concat_meets ⟨_,ho,rfl⟩ ⟨_,ho2,rfl⟩ noFill_list_add seq_list_add PySem.F.slot_list_add PySem.F.entry_list_add (PySem.F.args_list_add_2 _ _) (list_addW l b its.toArray its2.toArray n n2 dd dd2 sl sl2 (by simp only [List.size_toArray]; omega)) ⟨ho,ho2,?_⟩
 have ea:its.toArray++its2.toArray=(its++its2).toArray:=by simp
 rw [ea]
 exact ⟨.ref _,_,I.lnew (t':=s.toks) (r.append r2) (by rw [List.length_append]; omega),rfl,q _ I.fresh⟩
theorem k6 (hK:X.K=K):OpR X (binaryOp .Add) (rF2 K ly 1):=by
 subst hK
 refine op_catL.imp fun x y H Q ⟨O,a,b,t,oa,ob,hd,hg,k⟩=>?_
 cases a with
 | list ts=>cases b with
  | list us =>
   dsimp only [ly] at hg
   by_cases hl:ts.length+us.length≤sizeLine
   case neg=>rw [if_neg hl] at hg; cases hg
   rw [if_pos hl] at hg
   cases hg
   obtain ⟨a,vs,e1,f1,w1⟩:=oa.lst0
   obtain ⟨b,ws,e2,f2,w2⟩:=ob.lst0
   refine ⟨a,b,vs,ws,e1,e2,f1.sq,f2.sq,by rw [w1.len,w2.len]; exact hl,fun p hp=>?_⟩
   obtain ⟨n1,n2⟩:=cI hp hd (w1.app w2)
   exact k _ _ _ n1 n2
  | _=>cases hg
 | _=>cases hg
def Hm:D→D→Option D
 | .list ts,.int k=>grd (-(2 ^ 63)≤k∧k < 2 ^ 63∧ts.length * k.toNat≤sizeLine) (.list (List.replicate k.toNat ts).flatten)
 | _,_=>none
def Hl:D→D→Option D
 | .str z,.int k=>grd (z.length≤4000∧-(2 ^ 63)≤k∧k≤4000) (.str (Txt.mul z k))
 | _,_=>none
def kX:D→Option D
 | .int i=>some (.int (-i))
 | _=>none
theorem EQ:UnR X (unaryOp .USub) (rF1 K kX 3):=un_neg.imp fun x H Q ⟨O,a,t,oa,hd,hg,k⟩=>by
 cases a with
 | int i=>cases hg; exact ⟨i,oa,k _ H NoA .refl rfl⟩
 | _=>cases hg
def br:List D→Option D
 | [.list ts]=>some (.int ts.length)
 | [.tuple ts]=>some (.int ts.length)
 | [.str z]=>grd (z.length≤sizeLine) (.int z.length)
 | _=>none
theorem cq (hK:X.K=K):CallR X (.builtin "len") (rFn K br 3):=(GG hK).imp fun xs H Q ⟨O,as,t,oa,hd,hg,k⟩=>by
 match as,hg with
 | [.list ts],hg =>
  cases hg
  obtain ⟨v,rfl,o⟩:=oa.one
  obtain ⟨a,vs,rfl,fz,w⟩:=o.lst0
  exact ⟨_,_,rfl,.inl ⟨vs,fz.sq,rfl⟩,by rw [w.len]; exact k _ H NoA .refl rfl⟩
 | [.tuple ts],hg =>
  cases hg
  obtain ⟨v,rfl,o⟩:=oa.one
  obtain ⟨a,vs,rfl,fz,w⟩:=o.tup0
  exact ⟨_,_,rfl,.inr ⟨vs,fz.sq,rfl⟩,by rw [w.len]; exact k _ H NoA .refl rfl⟩
 | [.str z],hg =>
  obtain ⟨c,rfl⟩:=gO hg
  obtain ⟨v,rfl,o⟩:=oa.one
  exact ⟨_,_,rfl,by rw [show v=.str z from o]; exact ⟨c,rfl⟩,k _ H NoA .refl rfl⟩
def gY:List D→Option D
 | [.int i]=>some (.int (if i < 0 then -i else i))
 | _=>none
theorem rE:CallR X (.builtin "abs") (rFn K gY 3):=call_abs.imp fun xs H Q ⟨O,as,t,oa,hd,hg,k⟩=>by
 match as,hg with
 | [.int i],hg =>
  cases hg
  obtain ⟨v,rfl,o⟩:=oa.one
  exact ⟨i,by rw [show v=.int i from o],k _ H NoA .refl rfl⟩
def pE:List D→Option D
 | [.int i,.int j]=>some (.int (if j > i then j else i))
 | _=>none
def pC:List D→Option D
 | [.int i,.int j]=>some (.int (if j < i then j else i))
 | _=>none
theorem Bf (hc:X.calm=true):CallR X (.builtin "max") (rFn K pE 3):=(rW hc).imp fun xs H Q ⟨O,as,t,oa,hd,hg,k⟩=>by
 match as,hg with
 | [.int i,.int j],hg =>
  cases hg
  obtain ⟨v,w,rfl,o,o2⟩:=oa.two
  exact ⟨i,j,by rw [show v=.int i from o,show w=.int j from o2],k _ H NoA .refl rfl⟩
theorem Be (hc:X.calm=true):CallR X (.builtin "min") (rFn K pC 3):=(rV hc).imp fun xs H Q ⟨O,as,t,oa,hd,hg,k⟩=>by
 match as,hg with
 | [.int i,.int j],hg =>
  cases hg
  obtain ⟨v,w,rfl,o,o2⟩:=oa.two
  exact ⟨i,j,by rw [show v=.int i from o,show w=.int j from o2],k _ H NoA .refl rfl⟩
def gK:List D→Option D
 | [.int i]=>some (.int i)
 | [.bool b]=>some (.int (if b then 1 else 0))
 | _=>none
theorem ES:CallR X (.type "int") (rFn K gK 3):=call_int1.imp fun xs H Q ⟨O,as,t,oa,hd,hg,k⟩=>by
 match as,hg with
 | [.int i],hg =>
  cases hg
  obtain ⟨v,rfl,o⟩:=oa.one
  exact .inl ⟨i,by rw [show v=.int i from o],k _ H NoA .refl rfl⟩
 | [.bool i],hg =>
  cases hg
  obtain ⟨v,rfl,o⟩:=oa.one
  exact .inr ⟨i,by rw [show v=.bl i from o],k _ H NoA .refl rfl⟩
def cH (z:Str):List D:=(li z).map fun c=>.str (mk1 c)
theorem mQ {z:Str}:Ows K O H (cH z) 0 (cG z) NoA:=by
 unfold cH cG
 show Ows K O H ((li z).map fun c=>.str (mk1 c)) 0 ((li z).map sgn) NoA
 generalize li z=l
 induction l with
 | nil=>rfl
 | cons c r ih=>exact ⟨sgn c,r.map sgn,NoA,NoA,rfl,fun _ z=>z,fun _ z=>z,fun _ z=>z.elim,rfl,ih⟩
def fH:List D→Option D
 | [.list ts]=>some (.list ts)
 | [.tuple ts]=>some (.list ts)
 | [.str z]=>grd (z.cps.size≤sizeLine) (.list (cH z))
 | _=>none
theorem i7 (hK:X.K=K) (hc:X.calm=true):CallR X (.type "list") (rFn K fH 1):=((AK hK).or' (lj hc)).imp fun xs H Q ⟨O,as,t,oa,hd,hg,k⟩=>by
 match as,hg with
 | [.list ts],hg =>
  cases hg
  obtain ⟨v,rfl,o⟩:=oa.one
  obtain ⟨a,vs,rfl,fz,w⟩:=o.lst0
  exact .inl ⟨a,vs,rfl,.inl fz.sq,fun l hl=>k _ _ _ (cI hl hd w).1 (cI hl hd w).2⟩
 | [.tuple ts],hg =>
  cases hg
  obtain ⟨v,rfl,o⟩:=oa.one
  obtain ⟨a,vs,rfl,fz,w⟩:=o.tup0
  exact .inl ⟨a,vs,rfl,.inr fz.sq,fun l hl=>k _ _ _ (cI hl hd w).1 (cI hl hd w).2⟩
 | [.str z],hg =>
  obtain ⟨c,rfl⟩:=gO hg
  obtain ⟨v,rfl,o⟩:=oa.one
  exact .inr ⟨z,by rw [show v=.str z from o],c,fun l hl=>k _ _ _ (cI (K:=K) hl hd mQ).1 (cI hl hd mQ).2⟩
def pi:List D→Option D
 | [.list ts]=>some (.tuple ts)
 | [.tuple ts]=>some (.tuple ts)
 | _=>none
theorem tK (hK:X.K=K):CallR X (.type "tuple") (rFn K pi 0):=(Ek hK).imp fun xs H Q ⟨O,as,t,oa,hd,hg,k⟩=>by
 match as,hg with
 | [.list ts],hg =>
  cases hg
  obtain ⟨v,rfl,o⟩:=oa.one
  obtain ⟨a,vs,rfl,fz,w⟩:=o.lst0
  exact ⟨a,vs,rfl,.inl ⟨fz.sq,fun l hl=>k _ _ _ (oA hl hd w).1 (oA hl hd w).2⟩⟩
 | [.tuple ts],hg =>
  cases hg
  obtain ⟨v,rfl,o⟩:=oa.one
  obtain ⟨a,vs,rfl,fz,w⟩:=o.tup0
  exact ⟨a,vs,rfl,.inr ⟨fz.sq,k _ H NoA .refl (by rw [fu]; exact o)⟩⟩
def fc:List D→Option (List Bool)
 | []=>some []
 | .bool b :: r=>(fc r).map (b :: ·)
 | _ :: _=>none
theorem lK:∀ {ts:List D} {vs:List V} {bs:List Bool},Ows K O H ts 0 vs NoA→fc ts=some bs→vs=bs.map V.bl
 | [],_,_,h,hb=>by cases hb; exact h
 | .bool b :: r,_,_,h,hb=>by
  obtain ⟨v,w,F1,F2,e,_,_,_,h4,h5⟩:=h
  obtain ⟨bs',h6,h7⟩:=Option.map_eq_some_iff.mp hb
  subst e h7
  rw [show v=.bl b from h4,lK (Ows.any0 r h5) h6]
  rfl
 | .none :: _,_,_,_,hb=>by cases hb
 | .int _ :: _,_,_,_,hb=>by cases hb
 | .str _ :: _,_,_,_,hb=>by cases hb
 | .list _ :: _,_,_,_,hb=>by cases hb
 | .tuple _ :: _,_,_,_,hb=>by cases hb
 | .dict _ :: _,_,_,_,hb=>by cases hb
def lx:List D→Option D
 | [.list ts]=>(fc ts).map fun bs=>.bool (bs.all id)
 | _=>none
theorem EU (hK:X.K=K) (hc:X.calm=true):CallR X (.builtin "all") (rFn K lx 3):=(GJ hK hc).imp fun xs H Q ⟨O,as,t,oa,hd,hg,k⟩=>by
 match as,hg with
 | [.list ts],hg =>
  obtain ⟨bs,h1,rfl⟩:=Option.map_eq_some_iff.mp hg
  obtain ⟨v,rfl,o⟩:=oa.one
  obtain ⟨a,vs,rfl,fz,w⟩:=o.lst0
  have e:=lK w h1
  subst e
  exact ⟨a,bs,rfl,fz.sq,k _ H NoA .refl rfl⟩
def tyN:D→String
 | .none=>"NoneType" | .bool _=>"bool" | .int _=>"int" | .str _=>"str" | .list _=>"list" | .tuple _=>"tuple" | .dict _=>"dict"
def aO (n T:String):Bool:=n == T || (n == "bool" && T == "int")
theorem oI {T:String} (hT:T∈["int", "bool", "str", "list", "tuple", "dict"]) (a:D):PySem.W.kitOne K (.type (tyN a)) (.type T)=some (aO (tyN a) T):=by
 simp only [List.mem_cons,List.not_mem_nil,or_false] at hT
 rcases hT with rfl | rfl | rfl | rfl | rfl | rfl <;> cases a <;> rfl
def FH (K:PySem.W.Frag):List V→Hp→VK→Prop:=fun xs H Q=>∃ x T,∃ (O:AS) (a:D),xs=[x,.ty T]∧Ow K O H a 0 x NoA∧T∈["int", "bool", "str", "list", "tuple", "dict"]∧Q (.bl (aO (tyN a) T)) H
theorem rX:CallR X (.builtin "isinstance") (FH X.K):=by
 intro pins s σ H xs us Q I r h
 obtain ⟨x,T,O,a,rfl,oa,hT,q⟩:=h
 have base:∀ ty,TyOf X.K H x (.type ty)→tyN a=ty→wpAny (model X.prog X.w) X.A (call (.builtin "isinstance") us) (EP X pins σ Q) X.xe s:=fun ty h1 h2=>by
  refine t8 pins s σ H _ us Q I r ⟨x,.type ty,T,aO (tyN a) T,rfl,h1,?_,q⟩
  rw [← h2]
  exact oI hT a
 cases a with
 | none=>exact base _ (by rw [show x=.non from oa]; exact .non) rfl
 | bool b=>exact base _ (by rw [show x=.bl b from oa]; exact .bl b) rfl
 | int b=>exact base _ (by rw [show x=.int b from oa]; exact .int b) rfl
 | str b=>exact base _ (by rw [show x=.str b from oa]; exact .str b) rfl
 | tuple ts =>
  obtain ⟨p,vs,rfl,fz,w⟩:=oa.tup0
  exact base _ (.tup fz.1) rfl
 | dict ts =>
  obtain ⟨p,vs,rfl,⟨_,h1,_⟩ | ⟨_,h1,_⟩ | ⟨_,kk,b,_,h1,_⟩⟩:=oa
  ·exact base _ (.dK h1) rfl
  ·exact base _ (.dK h1) rfl
  ·exact base _ (.dT h1) rfl
 | list ts =>
  obtain ⟨p,vs,rfl,fz,w⟩:=oa.lst0
  obtain ⟨u,u2,rfl,r1,r2⟩:=r.two
  cases r1
  cases r2
  obtain ⟨its,rv,pl,_⟩:=I.list fz.sq
  have e:=oI (K:=X.K) hT (.list ts)
  obtain ⟨o,n,h1,h2,_⟩:=pl
  exact PySem.W.kia_one PySem.W.kitx_list I.kIn ⟨o,h1,h2⟩ e (fun z=>nomatch z) fun tk=>⟨.bl _,H,I.tok tk,rfl,q⟩
end
def aM (T:String):D→Option D:=fun a=>some (.bool (aO (tyN a) T))
section
variable {X:Cx} {K:PySem.W.Frag} {p:Bool} {ds ds1:List Nat} {d1:Nat} {e:Expr} {f:ME}
theorem E7 {T:Str} {n:String} {px pt pos:Pos} (hK:X.K=K) (hg:Gl X "isinstance") (hm:X.mg "isinstance"=none) (hgT:Gl X T) (hmT:X.mg T=none) (hbT:bootBuiltins T=some (.type n)) (hT:n∈["int", "bool", "str", "list", "tuple", "dict"]) (he:PE X e (tF K p ds ds1 d1 f))
  (hnT:T≠"__name__") (hdT:(T == ("__debug__" : Str))=false)
  (hs1:starEach [e,.Name T pt] X.env=(false,eval e X.env) :: starEach [.Name T pt] X.env) (hs2:starEach [.Name T pt] X.env=(false,eval (.Name T pt) X.env) :: starEach [] X.env) (hpl:(backTo pos (starEach [.Name T pt] X.env)).any (·.1)=false) :
  PE X (.Call (.Name "isinstance" px) [e,.Name T pt] [] pos) (tF K p ds ds1 3 (e1 (aM n) f)):=by
 subst hK
 refine (mP rX hg hm boot_isinstance (dy he (dy (AB (v:=.ty n) hgT hmT hbT rfl hnT hdT) pa_nil hs2) hs1) (by decide) (by decide) hs1 hpl).imp fun σ H Q h=>?_
 obtain ⟨Ox,en,R,t,en',e,hf,k⟩:=h
 unfold e1 at hf
 obtain ⟨⟨t1,en1⟩,h1,hf⟩:=Option.bind_eq_some_iff.mp hf
 obtain ⟨t',h3,hf⟩:=Option.map_eq_some_iff.mp hf
 cases hf
 cases h3
 refine ⟨Ox,en,R,t1,en1,e,h1,fun v H' R' F P o=>?_⟩
 exact ⟨v,n,Own R' Ox,t1,rfl,Ow.letgo P (fun _ z=>z) o,hT,k _ H' R' NoA (P.less fun _ z=>z.elim) rfl⟩
end
end L2
namespace L2
open PySem PySem.Spec PyProof.Rows
mutual
def peq:D→D→Bool
 | .none,.none=>true
 | .bool a,.bool b=>a == b
 | .bool a,.int b=>(if a then (1:Int) else 0) == b
 | .int a,.bool b=>a == (if b then (1:Int) else 0)
 | .int a,.int b=>a == b
 | .str a,.str b=>a == b
 | .list a,.list b=>bD a b
 | .tuple a,.tuple b=>bD a b
 | _,_=>false
def bD:List D→List D→Bool
 | [],[]=>true
 | a :: r,b :: s=>peq a b && bD r s
 | _,_=>false
end
mutual
def aA:D→Bool
 | .dict _=>false
 | .list ts=>aE ts
 | .tuple ts=>aE ts
 | _=>true
def aE:List D→Bool
 | []=>true
 | t :: r=>aA t && aE r
end
mutual
theorem jE:∀ a:D,aA a=true→peq a a=true
 | .none,_=>rfl
 | .bool b,_=>by cases b <;> rfl
 | .int i,_=>by simp [peq]
 | .str i,_=>by simp [peq]
 | .list ts,h=>by simp only [peq]; exact iu ts (by simpa [aA] using h)
 | .tuple ts,h=>by simp only [peq]; exact iu ts (by simpa [aA] using h)
 | .dict _,h=>by simp [aA] at h
theorem iu:∀ a:List D,aE a=true→bD a a=true
 | [],_=>rfl
 | t :: r,h=>by
  have h':aA t=true∧aE r=true:=by simpa [aE] using h
  simp only [bD,jE t h'.1,iu r h'.2,Bool.and_self]
end
mutual
def cy:D→Nat
 | .list ts=>bg ts+1
 | .tuple ts=>bg ts+1
 | _=>0
def bg:List D→Nat
 | []=>0
 | t :: r=>max (cy t) (bg r)
end
theorem iI:∀ {ts:List D} {i:Nat} {t:D},ts[i]?=some t→cy t≤bg ts
 | [],_,_,h=>by simp at h
 | u :: r,i,t,h=>by
  simp only [bg]
  cases i with
  | zero=>simp at h; subst h; exact Nat.le_max_left _ _
  | succ i=>exact Nat.le_trans (iI (by simpa using h)) (Nat.le_max_right _ _)
theorem cX:∀ {ts:List D} {i:Nat} {t:D},aE ts=true→ts[i]?=some t→aA t=true
 | [],_,_,_,h=>by simp at h
 | u :: r,i,t,hn,h=>by
  have h':aA u=true∧aE r=true:=by simpa [aE] using hn
  cases i with
  | zero=>simp at h; subst h; exact h'.1
  | succ i=>exact cX h'.2 (by simpa using h)
theorem jC:∀ {a b:List D},a.length≠b.length→bD a b=false
 | [],[],h=>absurd rfl h
 | [],_ :: _,_=>rfl
 | _ :: _,[],_=>rfl
 | a :: r,b :: s,h=>by
  simp only [bD,jC (a:=r) (b:=s) (fun z=>h (by rw [List.length_cons,List.length_cons,z])),Bool.and_false]
def eAt (a b:List D) (j:Nat):Bool:=match a[j]?,b[j]? with
 | some x,some y=>peq x y
 | _,_=>true
theorem lw (n:Nat) (f:Nat→Bool):(List.range (n+1)).all f=(f 0 && (List.range n).all fun j=>f (j+1)):=by
 rw [List.range_succ_eq_map,List.all_cons,List.all_map]
 rfl
theorem jD:∀ {a b:List D},a.length=b.length→(List.range a.length).all (eAt a b)=bD a b
 | [],[],_=>rfl
 | a :: r,b :: s,h=>by
  rw [List.length_cons,lw]
  have e:(List.range r.length).all (fun j=>eAt (a :: r) (b :: s) (j+1))=(List.range r.length).all (eAt r s):=by
   congr 1
  rw [e,jD (by simpa using h)]
  rfl
 | [],_ :: _,h=>by simp at h
 | _ :: _,[],h=>by simp at h
section
open PySem.SeqAt
variable {X:Cx} {pins:List (Addr × Obj)} {σ:St} {H:Hp} {s:Shared} {O:AS}
theorem zG {p:Addr} {vs ws:List V} (I:Inv X pins σ H s) (h:SqL X.K H p vs) (g:SqT X.K H p ws):False:=by
 obtain ⟨its,_,p1,_⟩:=I.list h
 obtain ⟨its2,_,p2,_⟩:=I.tuple g
 exact ne_of_list_tuple p1.isList (show s.heap.IsTuple p its2.toArray from p2) rfl
theorem D8 {p:Addr} {vs:List V} {ks:List (List Key × V)} (I:Inv X pins σ H s) (h:SqL X.K H p vs) (g:H p=some (.dT ks)):False:=by
 obtain ⟨its,_,⟨o,n,e1,e2,_⟩,_⟩:=I.list h
 obtain ⟨_,_,_,_,o',_,_,g1,g2,_⟩:=zY I.hok g
 rw [e1] at g1
 cases g1
 rw [g2.1] at e2
 simp at e2
theorem FT {p:Addr} {vs:List V} {ks:List (Key × V)} (I:Inv X pins σ H s) (h:SqL X.K H p vs) (g:H p=some (.dK ks)):False:=by
 obtain ⟨its,_,⟨o,n,e1,e2,_⟩,_⟩:=I.list h
 obtain ⟨_,_,_,_,o',_,_,g1,g2,_⟩:=p5 I.hok g
 rw [e1] at g1
 cases g1
 rw [g2.1] at e2
 simp at e2
mutual
theorem Ow.inj (I:Inv X pins σ H s):∀ (a b:D) {x:V},Ow X.K O H a 0 x NoA→Ow X.K O H b 0 x NoA→aA a=true→a=b
 | .none,b,_,h,g,_=>by
  cases (show _=_ from h)
  cases b with
  | none=>rfl
  | list ts=>obtain ⟨_,_,z,_⟩:=g; cases z
  | tuple ts=>obtain ⟨_,_,z,_⟩:=g; cases z
  | dict ts=>obtain ⟨_,_,z,_⟩:=g; cases z
  | bool c=>cases (show V.non=V.bl c from g)
  | int c=>cases (show V.non=V.int c from g)
  | str c=>cases (show V.non=V.str c from g)
 | .bool c,b,_,h,g,_=>by
  cases (show _=_ from h)
  cases b with
  | none=>cases (show V.bl c=V.non from g)
  | list ts=>obtain ⟨_,_,z,_⟩:=g; cases z
  | tuple ts=>obtain ⟨_,_,z,_⟩:=g; cases z
  | dict ts=>obtain ⟨_,_,z,_⟩:=g; cases z
  | bool c'=>cases (show V.bl c=V.bl c' from g); rfl
  | int c'=>cases (show V.bl c=V.int c' from g)
  | str c'=>cases (show V.bl c=V.str c' from g)
 | .int c,b,_,h,g,_=>by
  cases (show _=_ from h)
  cases b with
  | none=>cases (show V.int c=V.non from g)
  | list ts=>obtain ⟨_,_,z,_⟩:=g; cases z
  | tuple ts=>obtain ⟨_,_,z,_⟩:=g; cases z
  | dict ts=>obtain ⟨_,_,z,_⟩:=g; cases z
  | bool c'=>cases (show V.int c=V.bl c' from g)
  | int c'=>cases (show V.int c=V.int c' from g); rfl
  | str c'=>cases (show V.int c=V.str c' from g)
 | .str c,b,_,h,g,_=>by
  cases (show _=_ from h)
  cases b with
  | none=>cases (show V.str c=V.non from g)
  | list ts=>obtain ⟨_,_,z,_⟩:=g; cases z
  | tuple ts=>obtain ⟨_,_,z,_⟩:=g; cases z
  | dict ts=>obtain ⟨_,_,z,_⟩:=g; cases z
  | bool c'=>cases (show V.str c=V.bl c' from g)
  | int c'=>cases (show V.str c=V.int c' from g)
  | str c'=>cases (show V.str c=V.str c' from g); rfl
 | .list ts,b,_,h,g,hn=>by
  obtain ⟨p,vs,rfl,fz,w⟩:=h.lst0
  cases b with
  | none=>cases (show V.ref p=V.non from g)
  | bool c'=>cases (show V.ref p=V.bl c' from g)
  | int c'=>cases (show V.ref p=V.int c' from g)
  | str c'=>cases (show V.ref p=V.str c' from g)
  | list us =>
   obtain ⟨p',vs',e,fz',w'⟩:=g.lst0
   cases e
   have:=I.list_inj fz.sq fz'.sq
   subst this
   rw [Ows.inj I ts us w w' (by simpa [aA] using hn)]
  | tuple us =>
   obtain ⟨p',vs',e,fz',w'⟩:=g.tup0
   cases e
   exact (zG I fz.sq fz'.sq).elim
  | dict us =>
   obtain ⟨p',vs',e,⟨_,g1,_⟩ | ⟨z,_⟩ | ⟨_,_,_,_,g1,_⟩⟩:=g
   ·cases e
    exact (FT I fz.sq g1).elim
   ·exact absurd rfl z
   ·cases e
    exact (D8 I fz.sq g1).elim
 | .tuple ts,b,_,h,g,hn=>by
  obtain ⟨p,vs,rfl,fz,w⟩:=h.tup0
  cases b with
  | none=>cases (show V.ref p=V.non from g)
  | bool c'=>cases (show V.ref p=V.bl c' from g)
  | int c'=>cases (show V.ref p=V.int c' from g)
  | str c'=>cases (show V.ref p=V.str c' from g)
  | tuple us =>
   obtain ⟨p',vs',e,fz',w'⟩:=g.tup0
   cases e
   have:=fz.1.symm.trans fz'.1
   cases this
   rw [Ows.inj I ts us w w' (by simpa [aA] using hn)]
  | list us =>
   obtain ⟨p',vs',e,fz',w'⟩:=g.lst0
   cases e
   exact (zG I fz'.sq fz.sq).elim
  | dict us =>
   obtain ⟨p',vs',e,⟨_,g1,_⟩ | ⟨z,_⟩ | ⟨_,_,_,_,g1,_⟩⟩:=g
   ·cases e
    rw [fz.1] at g1
    cases g1
   ·exact absurd rfl z
   ·cases e
    rw [fz.1] at g1
    cases g1
 | .dict _,_,_,_,_,hn=>by simp [aA] at hn
theorem Ows.inj (I:Inv X pins σ H s):∀ (a b:List D) {x:List V},Ows X.K O H a 0 x NoA→Ows X.K O H b 0 x NoA→aE a=true→a=b
 | [],b,_,h,g,_=>by
  cases (show _=_ from h)
  cases b with
  | nil=>rfl
  | cons u us=>obtain ⟨_,_,_,_,e,_⟩:=g; cases e
 | t :: ts,b,_,h,g,hn=>by
  obtain ⟨v,r,F1,F2,e,_,_,_,h4,h5⟩:=h
  subst e
  have hn':aA t=true∧aE ts=true:=by simpa [aE] using hn
  cases b with
  | nil=>cases (show v :: r=[] from g)
  | cons u us =>
   obtain ⟨v',r',G1,G2,e,_,_,_,g4,g5⟩:=g
   cases e
   rw [Ow.inj I t u (Ow.any0 t h4) (Ow.any0 u g4) hn'.1,Ows.inj I ts us (Ows.any0 ts h5) (Ows.any0 us g5) hn'.2]
end
theorem ng {A:Around} {ts us:List D} {vs ws:List V} {its its2:List Value} (w:Ows X.K O H ts 0 vs NoA) (w2:Ows X.K O H us 0 ws NoA) (rv:Vals vs its) (rv2:Vals ws its2)
  (ih:∀ (j:Nat) a b x y v u,ts[j]?=some a→us[j]?=some b→Ow X.K O H a 0 x NoA→Ow X.K O H b 0 y NoA→RelV x v→RelV y u→EqAt A s v u (peq a b)) :
  ∀ j (h1:j < its.toArray.size) (h2:j < its2.toArray.size),EqAt A s its.toArray[j] its2.toArray[j] (eAt ts us j):=fun j h1 h2=>by
 have h1':j < its.length:=by simpa using h1
 have h2':j < its2.length:=by simpa using h2
 have l1:=rv.length
 have l2:=rv2.length
 have m1:=w.len
 have m2:=w2.len
 have e1:ts[j]?=some ts[j]:=List.getElem?_eq_getElem (by omega)
 have e2:us[j]?=some us[j]:=List.getElem?_eq_getElem (by omega)
 obtain ⟨x,g1,o1⟩:=w.get e1
 obtain ⟨y,g2,o2⟩:=w2.get e2
 obtain ⟨u1,f1,q1⟩:=rv.get g1
 obtain ⟨u2,f2,q2⟩:=rv2.get g2
 have z:=ih j _ _ x y u1 u2 e1 e2 o1 o2 q1 q2
 rw [List.getElem?_eq_getElem h1'] at f1
 rw [List.getElem?_eq_getElem h2'] at f2
 have i1:its.toArray[j]=u1:=by simpa using Option.some.inj f1
 have i2:its2.toArray[j]=u2:=by simpa using Option.some.inj f2
 rw [i1,i2]
 unfold eAt
 rw [e1,e2]
 exact z
theorem zX (I:Inv X pins σ H s):∀ (n:Nat) (a b:D) (A:Around) (x y:V) (v u:Value),cy a≤n→aA a=true→aA b=true→Ow X.K O H a 0 x NoA→Ow X.K O H b 0 y NoA→RelV x v→RelV y u→A.units+n+1 < cLine →
  EqAt A s v u (peq a b)∧RcAt A s v u (peq a b)∧RcNeAt A s v u (!peq a b):=by
 intro n
 induction n with
 | zero =>
  intro a b A x y v u hdp hna hnb o1 o2 r1 r2 hun
  have hu:A.units < cLine:=by omega
  cases a with
  | none =>
   cases b with
   | none =>
    cases (show x=V.non from o1)
    cases r1
    cases (show y=V.non from o2)
    cases r2
    exact ⟨EqAt.same _,RcAt.none_none,RcNeAt.none_none⟩
   | bool c2 =>
    cases (show x=V.non from o1)
    cases r1
    cases (show y=V.bl c2 from o2)
    cases r2
    exact ⟨EqAt.none_bool _,RcAt.none_bool _,RcNeAt.none_bool _⟩
   | int c2 =>
    cases (show x=V.non from o1)
    cases r1
    cases (show y=V.int c2 from o2)
    obtain ⟨tk2,rfl⟩:=r2
    exact ⟨EqAt.none_int _ _,RcAt.none_int _ _,RcNeAt.none_int _ _⟩
   | str c2 =>
    cases (show x=V.non from o1)
    cases r1
    cases (show y=V.str c2 from o2)
    obtain ⟨tk2,rfl⟩:=r2
    exact ⟨EqAt.none_str _ _,RcAt.none_str _ _,RcNeAt.none_str _ _⟩
   | list c2 =>
    cases (show x=V.non from o1)
    cases r1
    obtain ⟨p2,vs2,rfl,fz2,w2⟩:=o2.lst0
    cases r2
    obtain ⟨its2,rv2,pl2,_⟩:=I.list fz2.sq
    have hl2:=pl2.isList
    exact ⟨EqAt.none_list  hl2 hu,RcAt.none_list  hl2 hu,RcNeAt.none_list  hl2 hu⟩
   | tuple c2 =>
    cases (show x=V.non from o1)
    cases r1
    obtain ⟨p2,vs2,rfl,fz2,w2⟩:=o2.tup0
    cases r2
    obtain ⟨its2,rv2,pl2,_⟩:=I.tuple fz2.sq
    have hl2:s.heap.IsTuple p2 its2.toArray:=pl2
    exact ⟨EqAt.none_tuple  hl2 hu,RcAt.none_tuple  hl2 hu,RcNeAt.none_tuple  hl2 hu⟩
   | dict c2=>simp [aA] at hnb
  | bool c1 =>
   cases b with
   | none =>
    cases (show x=V.bl c1 from o1)
    cases r1
    cases (show y=V.non from o2)
    cases r2
    exact ⟨EqAt.bool_none _,RcAt.bool_none _,RcNeAt.bool_none _⟩
   | bool c2 =>
    cases (show x=V.bl c1 from o1)
    cases r1
    cases (show y=V.bl c2 from o2)
    cases r2
    exact ⟨EqAt.bool_bool _ _,RcAt.bool_bool _ _,RcNeAt.bool_bool _ _⟩
   | int c2 =>
    cases (show x=V.bl c1 from o1)
    cases r1
    cases (show y=V.int c2 from o2)
    obtain ⟨tk2,rfl⟩:=r2
    exact ⟨EqAt.bool_int _ _ _,RcAt.bool_int _ _ _,RcNeAt.bool_int _ _ _⟩
   | str c2 =>
    cases (show x=V.bl c1 from o1)
    cases r1
    cases (show y=V.str c2 from o2)
    obtain ⟨tk2,rfl⟩:=r2
    exact ⟨EqAt.bool_str _ _ _,RcAt.bool_str _ _ _,RcNeAt.bool_str _ _ _⟩
   | list c2 =>
    cases (show x=V.bl c1 from o1)
    cases r1
    obtain ⟨p2,vs2,rfl,fz2,w2⟩:=o2.lst0
    cases r2
    obtain ⟨its2,rv2,pl2,_⟩:=I.list fz2.sq
    have hl2:=pl2.isList
    exact ⟨EqAt.bool_list _ hl2 hu,RcAt.bool_list _ hl2 hu,RcNeAt.bool_list _ hl2 hu⟩
   | tuple c2 =>
    cases (show x=V.bl c1 from o1)
    cases r1
    obtain ⟨p2,vs2,rfl,fz2,w2⟩:=o2.tup0
    cases r2
    obtain ⟨its2,rv2,pl2,_⟩:=I.tuple fz2.sq
    have hl2:s.heap.IsTuple p2 its2.toArray:=pl2
    exact ⟨EqAt.bool_tuple _ hl2 hu,RcAt.bool_tuple _ hl2 hu,RcNeAt.bool_tuple _ hl2 hu⟩
   | dict c2=>simp [aA] at hnb
  | int c1 =>
   cases b with
   | none =>
    cases (show x=V.int c1 from o1)
    obtain ⟨tk1,rfl⟩:=r1
    cases (show y=V.non from o2)
    cases r2
    exact ⟨EqAt.int_none _ _,RcAt.int_none _ _,RcNeAt.int_none _ _⟩
   | bool c2 =>
    cases (show x=V.int c1 from o1)
    obtain ⟨tk1,rfl⟩:=r1
    cases (show y=V.bl c2 from o2)
    cases r2
    exact ⟨EqAt.int_bool _ _ _,RcAt.int_bool _ _ _,RcNeAt.int_bool _ _ _⟩
   | int c2 =>
    cases (show x=V.int c1 from o1)
    obtain ⟨tk1,rfl⟩:=r1
    cases (show y=V.int c2 from o2)
    obtain ⟨tk2,rfl⟩:=r2
    exact ⟨EqAt.int_int _ _ _ _,RcAt.int_int _ _ _ _,RcNeAt.int_int _ _ _ _⟩
   | str c2 =>
    cases (show x=V.int c1 from o1)
    obtain ⟨tk1,rfl⟩:=r1
    cases (show y=V.str c2 from o2)
    obtain ⟨tk2,rfl⟩:=r2
    exact ⟨EqAt.int_str _ _ _ _,RcAt.int_str _ _ _ _,RcNeAt.int_str _ _ _ _⟩
   | list c2 =>
    cases (show x=V.int c1 from o1)
    obtain ⟨tk1,rfl⟩:=r1
    obtain ⟨p2,vs2,rfl,fz2,w2⟩:=o2.lst0
    cases r2
    obtain ⟨its2,rv2,pl2,_⟩:=I.list fz2.sq
    have hl2:=pl2.isList
    exact ⟨EqAt.int_list _ _ hl2 hu,RcAt.int_list _ _ hl2 hu,RcNeAt.int_list _ _ hl2 hu⟩
   | tuple c2 =>
    cases (show x=V.int c1 from o1)
    obtain ⟨tk1,rfl⟩:=r1
    obtain ⟨p2,vs2,rfl,fz2,w2⟩:=o2.tup0
    cases r2
    obtain ⟨its2,rv2,pl2,_⟩:=I.tuple fz2.sq
    have hl2:s.heap.IsTuple p2 its2.toArray:=pl2
    exact ⟨EqAt.int_tuple _ _ hl2 hu,RcAt.int_tuple _ _ hl2 hu,RcNeAt.int_tuple _ _ hl2 hu⟩
   | dict c2=>simp [aA] at hnb
  | str c1 =>
   cases b with
   | none =>
    cases (show x=V.str c1 from o1)
    obtain ⟨tk1,rfl⟩:=r1
    cases (show y=V.non from o2)
    cases r2
    exact ⟨EqAt.str_none _ _,RcAt.str_none _ _,RcNeAt.str_none _ _⟩
   | bool c2 =>
    cases (show x=V.str c1 from o1)
    obtain ⟨tk1,rfl⟩:=r1
    cases (show y=V.bl c2 from o2)
    cases r2
    exact ⟨EqAt.str_bool _ _ _,RcAt.str_bool _ _ _,RcNeAt.str_bool _ _ _⟩
   | int c2 =>
    cases (show x=V.str c1 from o1)
    obtain ⟨tk1,rfl⟩:=r1
    cases (show y=V.int c2 from o2)
    obtain ⟨tk2,rfl⟩:=r2
    exact ⟨EqAt.str_int _ _ _ _,RcAt.str_int _ _ _ _,RcNeAt.str_int _ _ _ _⟩
   | str c2 =>
    cases (show x=V.str c1 from o1)
    obtain ⟨tk1,rfl⟩:=r1
    cases (show y=V.str c2 from o2)
    obtain ⟨tk2,rfl⟩:=r2
    exact ⟨EqAt.str_str _ _ _ _,RcAt.str_str _ _ _ _,RcNeAt.str_str _ _ _ _⟩
   | list c2 =>
    cases (show x=V.str c1 from o1)
    obtain ⟨tk1,rfl⟩:=r1
    obtain ⟨p2,vs2,rfl,fz2,w2⟩:=o2.lst0
    cases r2
    obtain ⟨its2,rv2,pl2,_⟩:=I.list fz2.sq
    have hl2:=pl2.isList
    exact ⟨EqAt.str_list _ _ hl2 hu,RcAt.str_list _ _ hl2 hu,RcNeAt.str_list _ _ hl2 hu⟩
   | tuple c2 =>
    cases (show x=V.str c1 from o1)
    obtain ⟨tk1,rfl⟩:=r1
    obtain ⟨p2,vs2,rfl,fz2,w2⟩:=o2.tup0
    cases r2
    obtain ⟨its2,rv2,pl2,_⟩:=I.tuple fz2.sq
    have hl2:s.heap.IsTuple p2 its2.toArray:=pl2
    exact ⟨EqAt.str_tuple _ _ hl2 hu,RcAt.str_tuple _ _ hl2 hu,RcNeAt.str_tuple _ _ hl2 hu⟩
   | dict c2=>simp [aA] at hnb
  | list c1 =>
   simp only [cy] at hdp
   omega
  | tuple c1 =>
   simp only [cy] at hdp
   omega
  | dict c1=>simp [aA] at hna
 | succ n ih =>
  intro a b A x y v u hdp hna hnb o1 o2 r1 r2 hun
  have hu:A.units < cLine:=by omega
  have hu1:A.in1.units+n+1 < cLine:=by
   show A.units+1+n+1 < cLine
   omega
  cases a with
  | none =>
   cases b with
   | none =>
    cases (show x=V.non from o1)
    cases r1
    cases (show y=V.non from o2)
    cases r2
    exact ⟨EqAt.same _,RcAt.none_none,RcNeAt.none_none⟩
   | bool c2 =>
    cases (show x=V.non from o1)
    cases r1
    cases (show y=V.bl c2 from o2)
    cases r2
    exact ⟨EqAt.none_bool _,RcAt.none_bool _,RcNeAt.none_bool _⟩
   | int c2 =>
    cases (show x=V.non from o1)
    cases r1
    cases (show y=V.int c2 from o2)
    obtain ⟨tk2,rfl⟩:=r2
    exact ⟨EqAt.none_int _ _,RcAt.none_int _ _,RcNeAt.none_int _ _⟩
   | str c2 =>
    cases (show x=V.non from o1)
    cases r1
    cases (show y=V.str c2 from o2)
    obtain ⟨tk2,rfl⟩:=r2
    exact ⟨EqAt.none_str _ _,RcAt.none_str _ _,RcNeAt.none_str _ _⟩
   | list c2 =>
    cases (show x=V.non from o1)
    cases r1
    obtain ⟨p2,vs2,rfl,fz2,w2⟩:=o2.lst0
    cases r2
    obtain ⟨its2,rv2,pl2,_⟩:=I.list fz2.sq
    have hl2:=pl2.isList
    exact ⟨EqAt.none_list  hl2 hu,RcAt.none_list  hl2 hu,RcNeAt.none_list  hl2 hu⟩
   | tuple c2 =>
    cases (show x=V.non from o1)
    cases r1
    obtain ⟨p2,vs2,rfl,fz2,w2⟩:=o2.tup0
    cases r2
    obtain ⟨its2,rv2,pl2,_⟩:=I.tuple fz2.sq
    have hl2:s.heap.IsTuple p2 its2.toArray:=pl2
    exact ⟨EqAt.none_tuple  hl2 hu,RcAt.none_tuple  hl2 hu,RcNeAt.none_tuple  hl2 hu⟩
   | dict c2=>simp [aA] at hnb
  | bool c1 =>
   cases b with
   | none =>
    cases (show x=V.bl c1 from o1)
    cases r1
    cases (show y=V.non from o2)
    cases r2
    exact ⟨EqAt.bool_none _,RcAt.bool_none _,RcNeAt.bool_none _⟩
   | bool c2 =>
    cases (show x=V.bl c1 from o1)
    cases r1
    cases (show y=V.bl c2 from o2)
    cases r2
    exact ⟨EqAt.bool_bool _ _,RcAt.bool_bool _ _,RcNeAt.bool_bool _ _⟩
   | int c2 =>
    cases (show x=V.bl c1 from o1)
    cases r1
    cases (show y=V.int c2 from o2)
    obtain ⟨tk2,rfl⟩:=r2
    exact ⟨EqAt.bool_int _ _ _,RcAt.bool_int _ _ _,RcNeAt.bool_int _ _ _⟩
   | str c2 =>
    cases (show x=V.bl c1 from o1)
    cases r1
    cases (show y=V.str c2 from o2)
    obtain ⟨tk2,rfl⟩:=r2
    exact ⟨EqAt.bool_str _ _ _,RcAt.bool_str _ _ _,RcNeAt.bool_str _ _ _⟩
   | list c2 =>
    cases (show x=V.bl c1 from o1)
    cases r1
    obtain ⟨p2,vs2,rfl,fz2,w2⟩:=o2.lst0
    cases r2
    obtain ⟨its2,rv2,pl2,_⟩:=I.list fz2.sq
    have hl2:=pl2.isList
    exact ⟨EqAt.bool_list _ hl2 hu,RcAt.bool_list _ hl2 hu,RcNeAt.bool_list _ hl2 hu⟩
   | tuple c2 =>
    cases (show x=V.bl c1 from o1)
    cases r1
    obtain ⟨p2,vs2,rfl,fz2,w2⟩:=o2.tup0
    cases r2
    obtain ⟨its2,rv2,pl2,_⟩:=I.tuple fz2.sq
    have hl2:s.heap.IsTuple p2 its2.toArray:=pl2
    exact ⟨EqAt.bool_tuple _ hl2 hu,RcAt.bool_tuple _ hl2 hu,RcNeAt.bool_tuple _ hl2 hu⟩
   | dict c2=>simp [aA] at hnb
  | int c1 =>
   cases b with
   | none =>
    cases (show x=V.int c1 from o1)
    obtain ⟨tk1,rfl⟩:=r1
    cases (show y=V.non from o2)
    cases r2
    exact ⟨EqAt.int_none _ _,RcAt.int_none _ _,RcNeAt.int_none _ _⟩
   | bool c2 =>
    cases (show x=V.int c1 from o1)
    obtain ⟨tk1,rfl⟩:=r1
    cases (show y=V.bl c2 from o2)
    cases r2
    exact ⟨EqAt.int_bool _ _ _,RcAt.int_bool _ _ _,RcNeAt.int_bool _ _ _⟩
   | int c2 =>
    cases (show x=V.int c1 from o1)
    obtain ⟨tk1,rfl⟩:=r1
    cases (show y=V.int c2 from o2)
    obtain ⟨tk2,rfl⟩:=r2
    exact ⟨EqAt.int_int _ _ _ _,RcAt.int_int _ _ _ _,RcNeAt.int_int _ _ _ _⟩
   | str c2 =>
    cases (show x=V.int c1 from o1)
    obtain ⟨tk1,rfl⟩:=r1
    cases (show y=V.str c2 from o2)
    obtain ⟨tk2,rfl⟩:=r2
    exact ⟨EqAt.int_str _ _ _ _,RcAt.int_str _ _ _ _,RcNeAt.int_str _ _ _ _⟩
   | list c2 =>
    cases (show x=V.int c1 from o1)
    obtain ⟨tk1,rfl⟩:=r1
    obtain ⟨p2,vs2,rfl,fz2,w2⟩:=o2.lst0
    cases r2
    obtain ⟨its2,rv2,pl2,_⟩:=I.list fz2.sq
    have hl2:=pl2.isList
    exact ⟨EqAt.int_list _ _ hl2 hu,RcAt.int_list _ _ hl2 hu,RcNeAt.int_list _ _ hl2 hu⟩
   | tuple c2 =>
    cases (show x=V.int c1 from o1)
    obtain ⟨tk1,rfl⟩:=r1
    obtain ⟨p2,vs2,rfl,fz2,w2⟩:=o2.tup0
    cases r2
    obtain ⟨its2,rv2,pl2,_⟩:=I.tuple fz2.sq
    have hl2:s.heap.IsTuple p2 its2.toArray:=pl2
    exact ⟨EqAt.int_tuple _ _ hl2 hu,RcAt.int_tuple _ _ hl2 hu,RcNeAt.int_tuple _ _ hl2 hu⟩
   | dict c2=>simp [aA] at hnb
  | str c1 =>
   cases b with
   | none =>
    cases (show x=V.str c1 from o1)
    obtain ⟨tk1,rfl⟩:=r1
    cases (show y=V.non from o2)
    cases r2
    exact ⟨EqAt.str_none _ _,RcAt.str_none _ _,RcNeAt.str_none _ _⟩
   | bool c2 =>
    cases (show x=V.str c1 from o1)
    obtain ⟨tk1,rfl⟩:=r1
    cases (show y=V.bl c2 from o2)
    cases r2
    exact ⟨EqAt.str_bool _ _ _,RcAt.str_bool _ _ _,RcNeAt.str_bool _ _ _⟩
   | int c2 =>
    cases (show x=V.str c1 from o1)
    obtain ⟨tk1,rfl⟩:=r1
    cases (show y=V.int c2 from o2)
    obtain ⟨tk2,rfl⟩:=r2
    exact ⟨EqAt.str_int _ _ _ _,RcAt.str_int _ _ _ _,RcNeAt.str_int _ _ _ _⟩
   | str c2 =>
    cases (show x=V.str c1 from o1)
    obtain ⟨tk1,rfl⟩:=r1
    cases (show y=V.str c2 from o2)
    obtain ⟨tk2,rfl⟩:=r2
    exact ⟨EqAt.str_str _ _ _ _,RcAt.str_str _ _ _ _,RcNeAt.str_str _ _ _ _⟩
   | list c2 =>
    cases (show x=V.str c1 from o1)
    obtain ⟨tk1,rfl⟩:=r1
    obtain ⟨p2,vs2,rfl,fz2,w2⟩:=o2.lst0
    cases r2
    obtain ⟨its2,rv2,pl2,_⟩:=I.list fz2.sq
    have hl2:=pl2.isList
    exact ⟨EqAt.str_list _ _ hl2 hu,RcAt.str_list _ _ hl2 hu,RcNeAt.str_list _ _ hl2 hu⟩
   | tuple c2 =>
    cases (show x=V.str c1 from o1)
    obtain ⟨tk1,rfl⟩:=r1
    obtain ⟨p2,vs2,rfl,fz2,w2⟩:=o2.tup0
    cases r2
    obtain ⟨its2,rv2,pl2,_⟩:=I.tuple fz2.sq
    have hl2:s.heap.IsTuple p2 its2.toArray:=pl2
    exact ⟨EqAt.str_tuple _ _ hl2 hu,RcAt.str_tuple _ _ hl2 hu,RcNeAt.str_tuple _ _ hl2 hu⟩
   | dict c2=>simp [aA] at hnb
  | list c1 =>
   cases b with
   | none =>
    obtain ⟨p1,vs1,rfl,fz1,w1⟩:=o1.lst0
    cases r1
    obtain ⟨its1,rv1,pl1,_⟩:=I.list fz1.sq
    have hl1:=pl1.isList
    cases (show y=V.non from o2)
    cases r2
    exact ⟨EqAt.list_none  hl1 hu,RcAt.list_none  hl1 hu,RcNeAt.list_none  hl1 hu⟩
   | bool c2 =>
    obtain ⟨p1,vs1,rfl,fz1,w1⟩:=o1.lst0
    cases r1
    obtain ⟨its1,rv1,pl1,_⟩:=I.list fz1.sq
    have hl1:=pl1.isList
    cases (show y=V.bl c2 from o2)
    cases r2
    exact ⟨EqAt.list_bool _ hl1 hu,RcAt.list_bool _ hl1 hu,RcNeAt.list_bool _ hl1 hu⟩
   | int c2 =>
    obtain ⟨p1,vs1,rfl,fz1,w1⟩:=o1.lst0
    cases r1
    obtain ⟨its1,rv1,pl1,_⟩:=I.list fz1.sq
    have hl1:=pl1.isList
    cases (show y=V.int c2 from o2)
    obtain ⟨tk2,rfl⟩:=r2
    exact ⟨EqAt.list_int _ _ hl1 hu,RcAt.list_int _ _ hl1 hu,RcNeAt.list_int _ _ hl1 hu⟩
   | str c2 =>
    obtain ⟨p1,vs1,rfl,fz1,w1⟩:=o1.lst0
    cases r1
    obtain ⟨its1,rv1,pl1,_⟩:=I.list fz1.sq
    have hl1:=pl1.isList
    cases (show y=V.str c2 from o2)
    obtain ⟨tk2,rfl⟩:=r2
    exact ⟨EqAt.list_str _ _ hl1 hu,RcAt.list_str _ _ hl1 hu,RcNeAt.list_str _ _ hl1 hu⟩
   | list c2 =>
    obtain ⟨p1,vs1,rfl,fz1,w1⟩:=o1.lst0
    cases r1
    obtain ⟨its1,rv1,pl1,_⟩:=I.list fz1.sq
    have hl1:=pl1.isList
    obtain ⟨p2,vs2,rfl,fz2,w2⟩:=o2.lst0
    cases r2
    obtain ⟨its2,rv2,pl2,_⟩:=I.list fz2.sq
    have hl2:=pl2.isList
    have dl:bg c1≤n:=by simp only [cy] at hdp; omega
    have nd1:aE c1=true:=by simpa [aA] using hna
    have nd2:aE c2=true:=by simpa [aA] using hnb
    have el:=ng (A:=A.in1) w1 w2 rv1 rv2 fun j a b x y v u e1 e2 q1 q2 q3 q4=>(ih a b A.in1 x y v u (Nat.le_trans (iI e1) dl) (cX nd1 e1) (cX nd2 e2) q1 q2 q3 q4 hu1).1
    have l1:=rv1.length
    have l2:=rv2.length
    have m1:=w1.len
    have m2:=w2.len
    have rc:RcAt A s (.ref p1) (.ref p2) (bD c1 c2)∧RcNeAt A s (.ref p1) (.ref p2) (!bD c1 c2):=by
     by_cases hz:c1.length=c2.length
     ·have hs1:its1.toArray.size=its2.toArray.size:=by rw [List.size_toArray,List.size_toArray]; omega
      have hs2:its1.toArray.size=c1.length:=by rw [List.size_toArray]; omega
      have z1:=RcAt.lists hl1 hl2 hs1 hu el
      have z2:=RcNeAt.lists hl1 hl2 hs1 hu el
      rw [hs2,jD hz] at z1 z2
      exact ⟨z1,z2⟩
     ·have hs1:(its1.toArray.size != its2.toArray.size)=true:=by rw [List.size_toArray,List.size_toArray,bne_iff_ne]; omega
      rw [jC hz]
      exact ⟨RcAt.lists_lengths hl1 hl2 hs1 hu,RcNeAt.lists_lengths hl1 hl2 hs1 hu⟩
    have pe:peq (.list c1) (.list c2)=bD c1 c2:=by simp only [peq]
    refine ⟨?_,by rw [pe]; exact rc.1,by rw [pe]; exact rc.2⟩
    by_cases hp:p1=p2
    ·subst hp
     have:=Ow.inj I _ _ o1 o2 hna
     cases this
     rw [jE _ hna]
     exact EqAt.same _
    ·rw [pe]
     exact EqAt.of_refs hp rc.1
   | tuple c2 =>
    obtain ⟨p1,vs1,rfl,fz1,w1⟩:=o1.lst0
    cases r1
    obtain ⟨its1,rv1,pl1,_⟩:=I.list fz1.sq
    have hl1:=pl1.isList
    obtain ⟨p2,vs2,rfl,fz2,w2⟩:=o2.tup0
    cases r2
    obtain ⟨its2,rv2,pl2,_⟩:=I.tuple fz2.sq
    have hl2:s.heap.IsTuple p2 its2.toArray:=pl2
    exact ⟨EqAt.list_tuple hl1 hl2 hu,RcAt.list_tuple hl1 hl2 hu,RcNeAt.list_tuple hl1 hl2 hu⟩
   | dict c2=>simp [aA] at hnb
  | tuple c1 =>
   cases b with
   | none =>
    obtain ⟨p1,vs1,rfl,fz1,w1⟩:=o1.tup0
    cases r1
    obtain ⟨its1,rv1,pl1,_⟩:=I.tuple fz1.sq
    have hl1:s.heap.IsTuple p1 its1.toArray:=pl1
    cases (show y=V.non from o2)
    cases r2
    exact ⟨EqAt.tuple_none  hl1 hu,RcAt.tuple_none  hl1 hu,RcNeAt.tuple_none  hl1 hu⟩
   | bool c2 =>
    obtain ⟨p1,vs1,rfl,fz1,w1⟩:=o1.tup0
    cases r1
    obtain ⟨its1,rv1,pl1,_⟩:=I.tuple fz1.sq
    have hl1:s.heap.IsTuple p1 its1.toArray:=pl1
    cases (show y=V.bl c2 from o2)
    cases r2
    exact ⟨EqAt.tuple_bool _ hl1 hu,RcAt.tuple_bool _ hl1 hu,RcNeAt.tuple_bool _ hl1 hu⟩
   | int c2 =>
    obtain ⟨p1,vs1,rfl,fz1,w1⟩:=o1.tup0
    cases r1
    obtain ⟨its1,rv1,pl1,_⟩:=I.tuple fz1.sq
    have hl1:s.heap.IsTuple p1 its1.toArray:=pl1
    cases (show y=V.int c2 from o2)
    obtain ⟨tk2,rfl⟩:=r2
    exact ⟨EqAt.tuple_int _ _ hl1 hu,RcAt.tuple_int _ _ hl1 hu,RcNeAt.tuple_int _ _ hl1 hu⟩
   | str c2 =>
    obtain ⟨p1,vs1,rfl,fz1,w1⟩:=o1.tup0
    cases r1
    obtain ⟨its1,rv1,pl1,_⟩:=I.tuple fz1.sq
    have hl1:s.heap.IsTuple p1 its1.toArray:=pl1
    cases (show y=V.str c2 from o2)
    obtain ⟨tk2,rfl⟩:=r2
    exact ⟨EqAt.tuple_str _ _ hl1 hu,RcAt.tuple_str _ _ hl1 hu,RcNeAt.tuple_str _ _ hl1 hu⟩
   | list c2 =>
    obtain ⟨p1,vs1,rfl,fz1,w1⟩:=o1.tup0
    cases r1
    obtain ⟨its1,rv1,pl1,_⟩:=I.tuple fz1.sq
    have hl1:s.heap.IsTuple p1 its1.toArray:=pl1
    obtain ⟨p2,vs2,rfl,fz2,w2⟩:=o2.lst0
    cases r2
    obtain ⟨its2,rv2,pl2,_⟩:=I.list fz2.sq
    have hl2:=pl2.isList
    exact ⟨EqAt.tuple_list hl1 hl2 hu,RcAt.tuple_list hl1 hl2 hu,RcNeAt.tuple_list hl1 hl2 hu⟩
   | tuple c2 =>
    obtain ⟨p1,vs1,rfl,fz1,w1⟩:=o1.tup0
    cases r1
    obtain ⟨its1,rv1,pl1,_⟩:=I.tuple fz1.sq
    have hl1:s.heap.IsTuple p1 its1.toArray:=pl1
    obtain ⟨p2,vs2,rfl,fz2,w2⟩:=o2.tup0
    cases r2
    obtain ⟨its2,rv2,pl2,_⟩:=I.tuple fz2.sq
    have hl2:s.heap.IsTuple p2 its2.toArray:=pl2
    have dl:bg c1≤n:=by simp only [cy] at hdp; omega
    have nd1:aE c1=true:=by simpa [aA] using hna
    have nd2:aE c2=true:=by simpa [aA] using hnb
    have el:=ng (A:=A.in1) w1 w2 rv1 rv2 fun j a b x y v u e1 e2 q1 q2 q3 q4=>(ih a b A.in1 x y v u (Nat.le_trans (iI e1) dl) (cX nd1 e1) (cX nd2 e2) q1 q2 q3 q4 hu1).1
    have l1:=rv1.length
    have l2:=rv2.length
    have m1:=w1.len
    have m2:=w2.len
    have rc:RcAt A s (.ref p1) (.ref p2) (bD c1 c2)∧RcNeAt A s (.ref p1) (.ref p2) (!bD c1 c2):=by
     have z1:=RcAt.tuples hl1 hl2 hu el
     have z2:=RcNeAt.tuples hl1 hl2 hu el
     have ez:((List.range (min its1.toArray.size its2.toArray.size)).all (eAt c1 c2) && its1.toArray.size == its2.toArray.size)=bD c1 c2:=by
      rw [List.size_toArray,List.size_toArray]
      by_cases hz:c1.length=c2.length
      ·have h3:its1.length=its2.length:=by omega
       have h4:min its1.length its2.length=c1.length:=by omega
       rw [h4,jD hz,h3,beq_self_eq_true,Bool.and_true]
      ·have h3:(its1.length == its2.length)=false:=by rw [beq_eq_false_iff_ne]; omega
       rw [h3,Bool.and_false,jC hz]
     rw [ez] at z1 z2
     exact ⟨z1,z2⟩
    have pe:peq (.tuple c1) (.tuple c2)=bD c1 c2:=by simp only [peq]
    refine ⟨?_,by rw [pe]; exact rc.1,by rw [pe]; exact rc.2⟩
    by_cases hp:p1=p2
    ·subst hp
     have:=Ow.inj I _ _ o1 o2 hna
     cases this
     rw [jE _ hna]
     exact EqAt.same _
    ·rw [pe]
     exact EqAt.of_refs hp rc.1
   | dict c2=>simp [aA] at hnb
  | dict c1=>simp [aA] at hna
end
def eqD (a b:D):Option D:=grd (aA a=true∧aA b=true∧cy a≤60) (.bool (peq a b))
def neD (a b:D):Option D:=grd (aA a=true∧aA b=true∧cy a≤60) (.bool (!peq a b))
section
variable {X:Cx} {K:PySem.W.Frag}
theorem i8 (hK:X.K=K) (hu:X.A.units+64 < cLine):OpR X (compareOp .Eq) (rF2 K eqD 3):=by
 subst hK
 intro pins s σ H x y v u Q I rx ry ⟨O,a,b,t,oa,ob,hd,hg,k⟩
 obtain ⟨⟨c1,c2,c3⟩,rfl⟩:=gO hg
 exact (zX I 60 a b X.A x y v u c3 c1 c2 oa ob rx ry (by omega)).2.1 X.prog X.w _ _ ⟨.bl _,H,I,rfl,k _ H NoA .refl rfl⟩
theorem zR (hK:X.K=K) (hu:X.A.units+64 < cLine):OpR X (compareOp .NotEq) (rF2 K neD 3):=by
 subst hK
 intro pins s σ H x y v u Q I rx ry ⟨O,a,b,t,oa,ob,hd,hg,k⟩
 obtain ⟨⟨c1,c2,c3⟩,rfl⟩:=gO hg
 exact (zX I 60 a b X.A x y v u c3 c1 c2 oa ob rx ry (by omega)).2.2 X.prog X.w _ _ ⟨.bl _,H,I,rfl,k _ H NoA .refl rfl⟩
end
end L2
namespace L2
open PySem PySem.Spec PyProof.Rows
theorem BlkOkC.inn {X:Cx} {scope:Scope} {ns:List Str} {js:List (Option Nat)} {N0:List Str} {sc0:Scope} {cl:List (Str × Addr)} {C:Addr} {env:Env} (hN:X.N=N0) (hE:X.env=compEnvC sc0 cl C env) (h:jc N0 sc0 scope ns js=true):BlkOkC X scope ns js:=by
 unfold jc at h
 simp only [Bool.and_eq_true,List.all_eq_true,decide_eq_true_eq,List.mem_range] at h
 obtain ⟨⟨⟨⟨⟨⟨h1,h2⟩,h3⟩,h4⟩,h5⟩,h6⟩,h7⟩:=h
 refine ⟨h1,fun y hy=>h2 y hy,fun y hy=>h3 y hy,fun y hy hk=>?_,h5,h6,fun i x j e1 e2=>?_⟩
 ·rw [hE]
  rcases h4 y hy hk with q | q
  ·exact .inl (gD (env:=env) q)
  ·exact gC (env:=env) q
 ·rw [hN]
  exact oW h7 e1 e2
theorem om {K:PySem.W.Frag} {dps:List Nat} {dr n:Nat} {F:List D→Option (D × En)} {vs:List V} {H:Hp} {Q:VK} {E:XK} (hn:dps.length=n) (h:spF K dps dr F vs H Q E):vs.length=n:=by
 obtain ⟨Ox,ts,R,r,outs,e,_⟩:=h
 have:=e.l2
 rw [List.length_map] at this
 omega
section
variable {X:Cx} {K:PySem.W.Frag} {p:Bool} {J:Jd} {ds ds0 ds1 ds2 ds3 ds':List Nat} {d d' d1 d2 d3:Nat} {a b c e:Expr} {st:Stmt} {f f1 f2 f3:ME} {m:MS} {pos p2:Pos}
theorem A5 (h:PS X st (tFS K J ds ds2 m)) (hd:leD ds1 ds2=true):PS X st (tFS K J ds ds1 m):=h.imp fun _ _ _=>EF hd
def G7 (g g':D→D→Option D) (f1 f2 f3:ME):ME:=fun en=>(f1 en).bind fun r=>(f2 r.2).bind fun q=>(g r.1 q.1).bind fun t=>match t with
 | .bool true=>(f3 q.2).bind fun z=>(g' q.1 z.1).map fun t=>(t,z.2)
 | .bool false=>some (.bool false,q.2)
 | _=>none
abbrev MO:=En→Option (Option Int × En)
def tFO (K:PySem.W.Frag) (p:Bool) (ds ds':List Nat) (f:MO):TO:=fun σ H Q=>∃ Ox en R o en',EnvOk K ds Ox H σ en R∧f en=some (o,en')∧∀ H' R',Post K p ds' Ox σ H en R en' H' R' NoA→Q o H'
def iZ:MO:=fun en=>some (none,en)
def gE (f:ME):MO:=fun en=>(f en).bind fun r=>match r.1 with
 | .int i=>some (some i,r.2)
 | _=>none
theorem PO.imp {X:Cx} {e:Option Expr} {t t':TO} (h:PO X e t) (hi:∀ σ H Q,t' σ H Q→t σ H Q):PO X e t':=fun pins s σ H Q I hw=>h pins s σ H Q I (hi _ _ _ hw)
theorem Bd:PO X none (tFO K p ds ds iZ):=po_none.imp fun σ H Q ⟨Ox,en,R,o,en',e,hf,k⟩=>by
 cases hf
 exact k H R (Post.refl e)
theorem Bc (h:PE X e (tF K p ds ds1 d f)):PO X (some e) (tFO K p ds ds1 (gE f)):=(Au h).imp fun σ H Q ⟨Ox,en,R,o,en',e,hf,k⟩=>by
 unfold gE at hf
 obtain ⟨⟨t1,en1⟩,h1,hf⟩:=Option.bind_eq_some_iff.mp hf
 refine ⟨Ox,en,R,t1,en1,e,h1,fun v H' R' F P o=>?_⟩
 cases t1 with
 | int i=>cases hf; exact ⟨i,o,k H' R' (P.less fun _ z=>z.elim)⟩
 | _=>cases hf
def rFs (K:PySem.W.Frag) (g:D→Option Int→Option Int→Option D) (d:Nat):V→Option Int→Option Int→Hp→VK→Prop:=fun x lo hi H Q=>∃ (O:AS) (a t:D),Ow K O H a 0 x NoA∧(∀ a,O a→∃ o,H a=some o)∧g a lo hi=some t∧∀ v H' F,NewTo H H' F→Ow K (U F O) H' t d v F→Q v H'
def eSl (g:D→Option Int→Option Int→Option D) (f:ME) (lo hi:MO):ME:=fun en=>(f en).bind fun r=>(lo r.2).bind fun l=>(hi l.2).bind fun h=>(g r.1 l.1 h.1).map fun t=>(t,h.2)
variable {lo hi:MO}
theorem Ow.past0 {H1 H2:Hp} {R1 R2:Nat→AS} {Ox:AS} {σ:St} {en1 en2:En} {F2:AS} {t:D} {v:V} (P2:Post K p ds2 Ox σ H1 en1 R1 en2 H2 R2 F2) (h:Ow K (Own R1 Ox) H1 t 0 v NoA):Ow K (Own R2 Ox) H2 t 0 v NoA:=by
 refine Ow.mv (G:=NoA) ⟨fun a o q z=>P2.keep a o q fun i zi=>?_,fun a z=>?_⟩ t (fun _ z=>z) h
 ·rcases z with z | z
  ·exact z (.inl ⟨i,zi⟩)
  ·exact z
 ·rcases z with z | z
  ·exact (P2.own a (.inr z)).imp .inl id
  ·exact .inl (.inr z)
theorem GK {g:D→Option Int→Option Int→Option D} {σ:St} {H:Hp} {Q:VK} (h:tF K p ds ds3 d (eSl g f lo hi) σ H Q):tSl (rFs K g d) (tF K p ds ds1 d1 f) (tFO K p ds1 ds2 lo) (tFO K p ds2 ds3 hi) σ H Q:=by
 obtain ⟨Ox,en,R,t,en',e,hf,k⟩:=h
 unfold eSl at hf
 obtain ⟨⟨t1,en1⟩,h1,hf⟩:=Option.bind_eq_some_iff.mp hf
 obtain ⟨⟨l,en2⟩,h2,hf⟩:=Option.bind_eq_some_iff.mp hf
 obtain ⟨⟨u,en3⟩,h3,hf⟩:=Option.bind_eq_some_iff.mp hf
 obtain ⟨t',h4,hf⟩:=Option.map_eq_some_iff.mp hf
 cases hf
 refine ⟨Ox,en,R,t1,en1,e,h1,fun v H1 R1 F1 P1 o1=>?_⟩
 have o0:=Ow.letgo P1 (fun _ z=>z) o1
 refine ⟨Ox,en1,R1,l,en2,P1.env0,h2,fun H2 R2 P2=>?_⟩
 refine ⟨Ox,en2,R2,u,en3,P2.env0,h3,fun H3 R3 P3=>?_⟩
 have P:=(P1.after P2).after P3
 rw [Bool.and_self,Bool.and_self] at P
 exact ⟨Own R3 Ox,t1,t,(o0.past0 P2).past0 P3,P3.doms,h4,fun v4 H4 F4 n4 o4=>k v4 H4 R3 F4 (P.fin n4) (mC ▸ o4)⟩
theorem SlR.imp {r r':V→Option Int→Option Int→Hp→VK→Prop} (h:SlR X r) (hi:∀ x lo hi H Q,r' x lo hi H Q→r x lo hi H Q):SlR X r':=fun pins s σ H x v vl vu lo hi' sl Q I rx hs pl pu q=>h pins s σ H x v vl vu lo hi' sl Q I rx hs pl pu (hi _ _ _ _ _ q)
theorem tP {g:D→Option Int→Option Int→Option D} {elo ehi:Option Expr} (hr:SlR X (rFs K g d)) (he:PE X e (tF K p ds ds1 d1 f)) (hl:PO X elo (tFO K p ds1 ds2 lo)) (hu:PO X ehi (tFO K p ds2 ds3 hi)):PE X (.Subscript e (.Slice elo ehi none p2) pos) (tF K p ds ds3 d (eSl g f lo hi)) :=
 (sF hr he hl hu).imp fun _ _ _=>GK
def dL {α:Type} (xs:List α) (lo hi:Option Int):List α:=(xs.drop (HT.sIx xs.length 0 lo)).take (HT.sIx xs.length xs.length hi - HT.sIx xs.length 0 lo)
def kt:D→Option Int→Option Int→Option D
 | .list ts,lo,hi=>some (.list (dL ts lo hi))
 | _,_,_=>none
theorem k7 (hK:X.K=K):SlR X (rFs K kt 1):=(GF hK).imp fun x lo hi H Q ⟨O,a,t,oa,hd,hg,k⟩=>by
 cases a with
 | list ts =>
  cases hg
  obtain ⟨a,vs,e1,f1,w1⟩:=oa.lst0
  refine ⟨a,vs,e1,f1.sq,fun p hp=>?_⟩
  have w2:Ows K O H (dL ts lo hi) 0 (lh vs lo hi) NoA:=by
   unfold dL lh
   rw [w1.len]
   exact (w1.drop _).take _
  exact k _ _ _ (cI hp hd w2).1 (cI hp hd w2).2
 | _=>cases hg
def Ht:D→Option Int→Option Int→Option D
 | .str z,lo,hi=>grd (z.length≤sizeLine) (.str ⟨(GO z.cps.toList lo hi).toArray⟩)
 | _,_,_=>none
end
end L2
namespace L2
open PySem PySem.Spec PyProof.Rows
def kEq:D→D→Bool
 | .int a,.int b=>a == b
 | .str a,.str b=>a == b
 | _,_=>false
theorem kd (a b:Key):kEq (kD a) (kD b)=decide (a=b):=by
 cases a with
 | inl i=>cases b with
  | inl j=>rw [rb]; rfl
  | inr j=>rw [qZ]; rfl
 | inr i=>cases b with
  | inl j=>rw [qY]; rfl
  | inr j =>
   rw [qX]
   show (i == j)=_
   by_cases h:i=j
   ·subst h; simp
   ·rw [decide_eq_false h,beq_eq_false_iff_ne]; exact h
def kOf:D→Option Key
 | .int i=>some (.inl i)
 | .str x=>some (.inr x)
 | _=>none
theorem m9 {a:D} {q:Key} (h:kOf a=some q):a=kD q:=by
 cases a <;> cases h <;> rfl
theorem mS {K:PySem.W.Frag} {O:AS} {H:Hp} {a:D} {q:Key} {d:Nat} {v:V} {F:AS} (h:kOf a=some q) (o:Ow K O H a d v F):v=kV q:=by
 cases a with
 | int i=>cases h; exact o
 | str i=>cases h; exact o
 | _=>cases h
def eg (ks:List (D × D)) (q:D):Option D:=(ks.find? fun kv=>kEq kv.1 q).map (·.2)
def la (ks:List (D × D)) (q t:D):List (D × D):=if ks.any (fun kv=>kEq kv.1 q) then ks.map (fun kv=>if kEq kv.1 q then (kv.1,t) else kv) else ks++[(q,t)]
section
variable {K:PySem.W.Frag} {O:AS} {H:Hp} {d:Nat}
theorem Owd.look:∀ {ks:List (D × D)} {vs:List (Key × V)} {F:AS} (q:Key),Owd K O H ks d vs F→(∃ t v,eg ks (kD q)=some t∧di vs q=some v∧Ow K O H t d v F)∨(eg ks (kD q)=none∧di vs q=none)
 | [],_,_,q,h=>by rw [show _=[] from h]; exact .inr ⟨rfl,rfl⟩
 | (k,t) :: ks,_,F,q,h=>by
  obtain ⟨q',v,r,F1,F2,e,e2,s1,s2,_,h4,h5⟩:=h
  subst e e2
  by_cases hq:q'=q
  ·subst hq
   refine .inl ⟨t,v,?_,gy rfl,Ow.grow (fun _ z=>z) t s1 h4⟩
   unfold eg
   rw [List.find?_cons,kd,decide_eq_true rfl]
   rfl
  ·have e1:eg ((kD q',t) :: ks) (kD q)=eg ks (kD q):=by
    unfold eg
    rw [List.find?_cons,kd,decide_eq_false hq]
   have e2:di ((q',v) :: r) q=di r q:=gz hq
   rw [e1,e2]
   rcases Owd.look q h5 with ⟨t',v',a1,a2,a3⟩ | z
   ·exact .inl ⟨t',v',a1,a2,Ow.grow (fun _ z=>z) t' s2 a3⟩
   ·exact .inr z
theorem Owd.any:∀ {ks:List (D × D)} {vs:List (Key × V)} {F:AS} (q:Key),Owd K O H ks d vs F→ks.any (fun kv=>kEq kv.1 (kD q))=vs.any (fun kv=>decide (kv.1=q))
 | [],_,_,q,h=>by rw [show _=[] from h]; rfl
 | (k,t) :: ks,_,F,q,h=>by
  obtain ⟨q',v,r,F1,F2,e,e2,_,_,_,_,h5⟩:=h
  subst e e2
  rw [List.any_cons,List.any_cons,kd,Owd.any q h5]
theorem Owd.len:∀ {ks:List (D × D)} {vs:List (Key × V)} {F:AS},Owd K O H ks d vs F→vs.length=ks.length
 | [],_,_,h=>by rw [show _=[] from h]; rfl
 | (k,t) :: ks,_,F,h=>by
  obtain ⟨q',v,r,F1,F2,e,e2,_,_,_,_,h5⟩:=h
  rw [e,List.length_cons,List.length_cons,h5.len]
theorem Owd.rep0 {t:D} {v:V} {q:Key} (ht:Ow K O H t 0 v NoA):∀ {ks:List (D × D)} {vs:List (Key × V)},Owd K O H ks 0 vs NoA→Owd K O H (ks.map fun kv=>if kEq kv.1 (kD q) then (kv.1,t) else kv) 0 (vs.map fun kv=>if kv.1=q then (kv.1,v) else kv) NoA
 | [],_,h=>by rw [show _=[] from h]; rfl
 | (k,u) :: ks,_,h=>by
  obtain ⟨q',w,r,F1,F2,e,e2,_,_,_,h4,h5⟩:=h
  subst e e2
  rw [List.map_cons,List.map_cons]
  have ih:=Owd.rep0 (q:=q) ht (Owd.any0 ks h5)
  dsimp only
  rw [kd]
  by_cases hq:q'=q
  ·rw [if_pos hq,if_pos (decide_eq_true hq)]
   exact ⟨q',v,_,NoA,NoA,rfl,rfl,fun _ z=>z,fun _ z=>z,fun _ z=>z.elim,ht,ih⟩
  ·rw [if_neg hq,if_neg (by rw [decide_eq_false hq]; exact Bool.false_ne_true)]
   exact ⟨q',w,_,NoA,NoA,rfl,rfl,fun _ z=>z,fun _ z=>z,fun _ z=>z.elim,Ow.any0 u h4,ih⟩
theorem Owd.snoc0 {t:D} {v:V} {q:Key} (ht:Ow K O H t 0 v NoA):∀ {ks:List (D × D)} {vs:List (Key × V)},Owd K O H ks 0 vs NoA→Owd K O H (ks++[(kD q,t)]) 0 (vs++[(q,v)]) NoA
 | [],_,h=>by
  rw [show _=[] from h]
  exact ⟨q,v,[],NoA,NoA,rfl,rfl,fun _ z=>z,fun _ z=>z,fun _ z=>z.elim,ht,rfl⟩
 | (k,u) :: ks,_,h=>by
  obtain ⟨q',w,r,F1,F2,e,e2,_,_,_,h4,h5⟩:=h
  subst e e2
  exact ⟨q',w,_,NoA,NoA,rfl,rfl,fun _ z=>z,fun _ z=>z,fun _ z=>z.elim,Ow.any0 u h4,Owd.snoc0 ht (Owd.any0 ks h5)⟩
theorem Owd.put0 {t:D} {v:V} {q:Key} {ks:List (D × D)} {vs:List (Key × V)} (h:Owd K O H ks 0 vs NoA) (ht:Ow K O H t 0 v NoA):Owd K O H (la ks (kD q) t) 0 (cc vs q v) NoA:=by
 unfold la cc
 rw [h.any q]
 by_cases hq:(vs.any fun kv=>decide (kv.1=q))=true
 ·rw [if_pos hq,if_pos hq]
  exact Owd.rep0 ht h
 ·rw [if_neg hq,if_neg hq]
  exact Owd.snoc0 ht h
theorem Owd.past {ks:List (D × D)} {vs:List (Key × V)} {F:AS} {l:Addr} {o:HO} {O':AS} (ho:∀ a,O' a→O a) (hl:O l) (hf:∀ b,F b→b≠l) (h:Owd K O H ks d vs F):Owd K O' (upd H l o) ks d vs F:=by
 refine Owd.mv (G:=F) ⟨fun a u q z=>?_,fun a z=>.inl (ho a z)⟩ ks (fun _ z=>z) h
 rw [aF]
 ·exact q
 ·intro za
  subst za
  rcases z with z | z
  ·exact z hl
  ·exact hf a z rfl
theorem Ow.dict1 {ks:List (D × D)} {v:V} {F:AS} (hd:d≠0) (h:Ow K O H (.dict ks) d v F):∃ a vs,v=.ref a∧H a=some (.dK vs)∧F a∧∃ F':AS,(∀ b,F' b→F b∧b≠a)∧Owd K O H ks (dn d) vs F':=by
 obtain ⟨a,vs,e,⟨z,_⟩ | ⟨_,h1,h2,h3⟩ | ⟨z,_⟩⟩:=h
 ·exact absurd z hd
 ·exact ⟨a,vs,e,h1,h2,h3⟩
 ·exact absurd z hd
end
def Hr:D→D→Option D
 | .dict ks,q=>(kOf q).bind fun _=>eg ks q
 | _,_=>none
section
variable {X:Cx} {K:PySem.W.Frag} {p:Bool} {J:Jd} {ds ds0 ds1 ds2 ds':List Nat} {d d' d1 d2:Nat} {a b c e o k:Expr} {f f1 f2 fk fe:ME} {pos px spos:Pos} {i:Nat} {σ:St} {H:Hp} {Q:VK} {Dn:Ends}
def bv (i:Nat) (f:ME):ME:=fun en=>(en[i]?).join.bind fun _=>(f en).bind fun r=>match (r.2[i]?).join with
 | some (.dict ks)=>(kOf r.1).bind fun _=>(eg ks r.1).map fun t=>(t,r.2)
 | _=>none
theorem Bw (hd:ds1[i]?=some 1) (h:tF K p ds ds1 0 (bv i f) σ H Q):zv (ff i) (tF K p ds ds1 d1 f) σ H Q:=by
 obtain ⟨Ox,en,R,t,en',e,hf,k⟩:=h
 unfold bv at hf
 obtain ⟨t0,h0,hf⟩:=Option.bind_eq_some_iff.mp hf
 obtain ⟨⟨t1,en1⟩,h1,hf⟩:=Option.bind_eq_some_iff.mp hf
 dsimp only at hf
 split at hf
 case h_2=>cases hf
 next ks h2 =>
 obtain ⟨q,hq,hf⟩:=Option.bind_eq_some_iff.mp hf
 obtain ⟨t',h3,hf⟩:=Option.map_eq_some_iff.mp hf
 cases hf
 obtain ⟨v,d0,a1,_,a3⟩:=e.at_ i _ (aU h0)
 refine ⟨v,a1,Ox,en,R,t1,_,e,h1,fun x H1 R1 F P o=>?_⟩
 obtain ⟨v',d',b1,b2,b3⟩:=P.env.at_ i _ (aU h2)
 rw [a1] at b1
 cases b1
 rw [hd] at b2
 cases b2
 obtain ⟨l,vs,el,hl,hr,F',hf',ow⟩:=b3.dict1 (by decide)
 rw [m9 hq] at h3
 rcases ow.look q with ⟨t'',w,c1,c2,c3⟩ | ⟨z,_⟩
 ·rw [h3] at c1
  cases c1
  refine ⟨l,w,el,?_,k w H1 R1 NoA (P.less fun _ z=>z.elim) ?_⟩
  ·rw [← c2,mS hq o]
   exact DGet.k hl
  ·exact Ow.any0 _ (Ow.grow (fun a z=>z.imp id fun z=>z.elim (fun z=>False.elim z) Or.inr) _ (fun _ z=>z) c3)
 ·rw [h3] at z; cases z
theorem tU {x:Str} (hu:X.A.units+1 < cLine) (hN:X.N[i]?=some x) (hv:Vis X.env.scope x) (h1:ds1[i]?=some 1) (hi:PE X k (tF K p ds ds1 d1 f)) (hs:qc k) (hd:(x == ("__debug__" : Str))=false) (hcd:(x == ("__classdict__" : Str))=false) :
  PE X (.Subscript (.Name x px) k pos) (tF K p ds ds1 0 (bv i f)):=(Ay hu (dF hN hv hd hcd) hi hs).imp fun _ _ _=>Bw h1
def cz (i:Nat) (fk fe:ME):MS:=fun en=>(fe en).bind fun r=>match (r.2[i]?).join with
 | some _=>(fk r.2).bind fun q=>match (q.2[i]?).join with
  | some (.dict ks)=>(kOf q.1).bind fun _=>if ks.length < sizeLine then some (.nx (q.2.set i (some (.dict (la ks q.1 r.1))))) else none
  | _=>none
 | none=>none
theorem A3 (hd:ds2[i]?=some 1) (h:tFS K J ds ds2 (cz i fk fe) Dn σ H):zy (ff i) (tF K false ds1 ds2 d2 fk) (tF K false ds ds1 0 fe) Dn σ H:=by
 obtain ⟨Ox,en,R,fl,e,hf,k⟩:=h
 unfold cz at hf
 obtain ⟨⟨t1,en1⟩,h1,hf⟩:=Option.bind_eq_some_iff.mp hf
 dsimp only at hf
 split at hf
 case h_2=>cases hf
 next tt h0 =>
 obtain ⟨⟨t2,en2⟩,h2,hf⟩:=Option.bind_eq_some_iff.mp hf
 dsimp only at hf
 split at hf
 case h_2=>cases hf
 next ks h3 =>
 obtain ⟨q,hq,hf⟩:=Option.bind_eq_some_iff.mp hf
 by_cases hlen:ks.length < sizeLine
 case neg=>rw [if_neg hlen] at hf; cases hf
 rw [if_pos hlen] at hf
 cases hf
 refine ⟨Ox,en,R,t1,en1,e,h1,fun x H1 R1 F1 P1 o1=>?_⟩
 obtain ⟨v0,d0,a1,_,_⟩:=P1.env.at_ i tt (aU h0)
 refine ⟨v0,a1,?_⟩
 refine ⟨U F1 Ox,en1,R1,t2,en2,P1.env,h2,fun y H2 R2 F2 P2 o2=>?_⟩
 have P:=P1.trans P2
 have o1':=Ow.over P1.env P2 o1
 have w1:=Ow.letgo P (fun _=>.inl) o1'
 obtain ⟨v',d',b1,b2,b3⟩:=P.env.at_ i _ (aU h3)
 rw [a1] at b1
 cases b1
 rw [hd] at b2
 cases b2
 obtain ⟨l,vs,el,hl,hr,F',hf',ow⟩:=b3.dict1 (by decide)
 have eq:=mS hq o2
 subst eq
 refine ⟨l,_,el,DPut.k hl (by rw [ow.len]; exact hlen),?_⟩
 have hi:i < en2.length:=(List.getElem?_eq_some_iff.mp (aU h3)).1
 have gG:∀ a,(fun a=>R2 i a) a→R2 i a∨U F1 F2 a:=fun a z=>.inl z
 have sub:=iN (i:=i) (R1:=R2) (Ox:=Ox) (G:=fun a=>R2 i a) (F':=NoA) (F:=U F1 F2) gG (fun _ z=>z.elim)
 have Ol:Own R2 (U (U F1 F2) Ox) l:=.inl ⟨i,hr⟩
 have PS:=P.slot (G:=fun a=>R2 i a) (F':=NoA) (o2:=.dK (cc vs q x)) (t:=.dict (la ks t2 t1)) hr hi a1 hd gG (fun _ z=>z.elim) (fun _ _ z=>z) ?_
 ·exact k σ _ _ PS.s
 refine ⟨l,cc vs q x,el,.inr (.inl ⟨by decide,aJ,hr,NoA,fun _ z=>z.elim,?_⟩)⟩
 rw [m9 hq]
 refine Owd.put0 (Owd.past sub Ol (fun _ z=>z.elim) (Owd.any0 ks ow)) ?_
 refine Ow.past (O:=Own R2 Ox) (fun a z=>?_) (.inl ⟨i,hr⟩) (fun _ z=>z.elim) w1
 rcases z with ⟨j,z⟩ | z | z
 ·by_cases hj:j=i
  ·rw [if_pos hj] at z; exact .inl ⟨i,z⟩
  ·rw [if_neg hj] at z; exact .inl ⟨j,z⟩
 ·exact z.elim
 ·exact .inr z
theorem tH {x:Str} (hu:X.A.units+1 < cLine) (hN:X.N[i]?=some x) (hv:Vis X.env.scope x) (he:PE X e (tF K false ds ds1 0 fe)) (hk:PE X k (tF K false ds1 ds2 d2 fk)) (h1:ds2[i]?=some 1)
  (hdb:(x == ("__debug__" : Str))=false) (hcd:(x == ("__classdict__" : Str))=false) (hs:swapsWith e (some (.Subscript (.Name x px) k spos)) pos.line X.env=pure false) :
  PS X (.Assign [.Subscript (.Name x px) k spos] e pos) (tFS K J ds ds2 (cz i fk fe)):=(Ap hu (dF hN hv hdb hcd) hk he hs).imp fun _ _ _=>A3 h1
end
end L2
namespace L2
open PySem PySem.Spec PyProof.Rows
def evP:List (ME × ME)→En→Option (List (D × D) × En)
 | [],en=>some ([],en)
 | (fk,fv) :: r,en=>(fk en).bind fun x=>(fv x.2).bind fun y=>(evP r y.2).bind fun z=>(kOf x.1).map fun _=>((x.1,y.1) :: z.1,z.2)
def Ec (ks:List (D × D)):List (D × D):=ks.foldl (fun acc kv=>la acc kv.1 kv.2) []
def jb (fs:List (ME × ME)):ME:=fun en=>(evP fs en).bind fun r=>if r.1.length≤15 then some (.dict (Ec r.1),r.2) else none
def OwP (K:PySem.W.Frag) (O:AS) (H:Hp):List (D × D)→List (V × V)→Prop
 | [],ps=>ps=[]
 | (k,t) :: r,ps=>∃ q v s,ps=(kV q,v) :: s∧k=kD q∧Ow K O H t 0 v NoA∧OwP K O H r s
section
variable {X:Cx} {K:PySem.W.Frag} {p:Bool} {J:Jd} {ds ds0 ds1 ds2 ds':List Nat} {d d' d1 d2:Nat} {a b c e o k:Expr} {es:List Expr} {f f1 f2 fk fe:ME} {fa:MA} {sh:Sh} {pos px spos:Pos} {i j:Nat} {σ:St} {H:Hp} {Q:VK} {Dn:Ends}
theorem OwP.mv {O O':AS} {H H':Hp} (m:Mv O O' NoA H H'):∀ {ks:List (D × D)} {ps:List (V × V)},OwP K O H ks ps→OwP K O' H' ks ps
 | [],_,h=>h
 | (k,t) :: r,_,h=>by
  obtain ⟨q,v,s,e1,e2,o,h⟩:=h
  exact ⟨q,v,s,e1,e2,Ow.mv m t (fun _ z=>z) o,OwP.mv m h⟩
def trs (K:PySem.W.Frag) (p:Bool) (ds:List Nat) (fs:List (ME × ME)):List (TE × TE):=fs.map fun q=>(tF K p ds ds 3 q.1,tF K p ds ds 0 q.2)
theorem Ar {R R1:Nat→AS} {Ox:AS} {en en1:En} {H1:Hp} {F:AS} (P:Post K p ds1 Ox σ H en R en1 H1 R1 F):Mv (Own R Ox) (Own R1 Ox) NoA H H1:=by
 refine ⟨fun a o q z=>P.keep a o q fun i zi=>?_,fun a z=>?_⟩
 ·rcases z with z | z
  ·exact z (.inl ⟨i,zi⟩)
  ·exact z
 ·rcases z with z | z
  ·exact (P.own a (.inr z)).imp .inl id
  ·exact .inl (.inr z)
theorem oR:∀ {fs:List (ME × ME)} {σ:St} {H:Hp} {Ox:AS} {en en':En} {R:Nat→AS} {ks:List (D × D)} {QP:List (V × V)→Hp→Prop},EnvOk K ds Ox H σ en R→evP fs en=some (ks,en') →
  (∀ ps H' R',Post K p ds Ox σ H en R en' H' R' NoA→OwP K (Own R' Ox) H' ks ps→QP ps H')→jY (trs K p ds fs) σ H QP
 | [],σ,H,Ox,en,en',R,ks,QP,e,hf,k=>by
  cases hf
  exact k [] H R (Post.refl e) rfl
 | (fk,fv) :: r,σ,H,Ox,en,en',R,ks,QP,e,hf,k=>by
  unfold evP at hf
  obtain ⟨⟨t1,en1⟩,h1,hf⟩:=Option.bind_eq_some_iff.mp hf
  obtain ⟨⟨t2,en2⟩,h2,hf⟩:=Option.bind_eq_some_iff.mp hf
  obtain ⟨⟨ks3,en3⟩,h3,hf⟩:=Option.bind_eq_some_iff.mp hf
  obtain ⟨q,hq,hf⟩:=Option.map_eq_some_iff.mp hf
  cases hf
  refine ⟨Ox,en,R,t1,en1,e,h1,fun x H1 R1 F1 P1 o1=>?_⟩
  refine ⟨Ox,en1,R1,t2,en2,P1.env0,h2,fun y H2 R2 F2 P2 o2=>?_⟩
  refine oR P2.env0 h3 fun ps H3 R3 P3 op=>?_
  have PP:=(P1.after P2).after P3
  rw [Bool.and_self,Bool.and_self] at PP
  refine k _ H3 R3 PP ⟨q,y,ps,?_,m9 hq,?_,op⟩
  ·rw [mS hq o1]
  ·exact Ow.mv (Ar P3) t2 (fun _ z=>z) (Ow.letgo P2 (fun _ z=>z) o2)
theorem mZ {O:AS}:∀ {ks:List (D × D)} {kvs:List (Key × V)} {acc:List (D × D)} {avs:List (Key × V)},OwP K O H ks (kvs.map fun kv=>(kV kv.1,kv.2))→Owd K O H acc 0 avs NoA→Owd K O H (ks.foldl (fun acc kv=>la acc kv.1 kv.2) acc) 0 (eA avs kvs) NoA
 | [],kvs,acc,avs,h,ha=>by
  have:kvs=[]:=List.map_eq_nil_iff.mp h
  subst this
  exact ha
 | (k,t) :: r,kvs,acc,avs,h,ha=>by
  obtain ⟨q,v,s,e1,e2,o,h⟩:=h
  cases kvs with
  | nil=>cases e1
  | cons kv kvs =>
   rw [List.map_cons] at e1
   injection e1 with e3 e4
   injection e3 with e5 e6
   have:=Ej e5
   subst this e6 e4 e2
   exact mZ (ks:=r) (kvs:=kvs) h (ha.put0 o)
theorem oy {O:AS}:∀ {ks:List (D × D)} {ps:List (V × V)},OwP K O H ks ps→∃ kvs:List (Key × V),ps=kvs.map (fun kv=>(kV kv.1,kv.2))∧kvs.length=ks.length
 | [],_,h=>⟨[],h,rfl⟩
 | (k,t) :: r,_,h=>by
  obtain ⟨q,v,s,e1,e2,o,h⟩:=h
  obtain ⟨kvs,e3,e4⟩:=oy h
  exact ⟨(q,v) :: kvs,by rw [e1,e3]; rfl,by rw [List.length_cons,List.length_cons,e4]⟩
theorem Fk {fs:List (ME × ME)} (h:tF K p ds ds 1 (jb fs) σ H Q):zu (trs K p ds fs) σ H Q:=by
 obtain ⟨Ox,en,R,t,en',e,hf,k⟩:=h
 unfold jb at hf
 obtain ⟨⟨ks,en1⟩,h1,hf⟩:=Option.bind_eq_some_iff.mp hf
 by_cases hl:ks.length≤15
 case neg=>rw [if_neg hl] at hf; cases hf
 rw [if_pos hl] at hf
 cases hf
 intro l hl0
 have n0:=bL (o:=.dK []) hl0
 have P0:Post K true ds Ox σ H en R en (upd H l (.dK [])) R (fun b=>b=l):=Post.new e n0.1 n0.2
 refine oR P0.env h1 fun ps H2 R2 P op=>?_
 obtain ⟨kvs,e1,e2⟩:=oy op
 have lO:U (fun b=>b=l) Ox l:=.inl rfl
 have hl2:H2 l=some (.dK []):=P.keep l _ aJ fun i z=>by
  obtain ⟨o,q⟩:=e.dom l (.inl ⟨i,z⟩)
  rw [hl0] at q
  cases q
 have nl2:∀ i,¬ R2 i l:=fun i z=>P.env.dx i l z (.inr lO)
 refine ⟨hl2,kvs,e1,by omega,?_⟩
 have PP:=P0.trans P
 rw [Bool.true_and] at PP
 have eU:U (fun b=>b=l) NoA=(fun b=>b=l):=eh fun a=>⟨fun z=>z.elim id fun z=>z.elim,.inl⟩
 rw [eU] at PP
 have keepl:∀ a o,H2 a=some o→a≠l→upd H2 l (.dK (eA [] kvs)) a=some o:=fun a o q n=>by rw [aF n]; exact q
 have OO:∀ a,Own R2 (U (fun b=>b=l) Ox) a→Own R2 (U (U (fun b=>b=l) Ox) NoA) a:=fun a z=>z.imp id .inl
 refine k (.ref l) _ R2 (fun b=>b=l) ⟨⟨fun j u hu=>?_,PP.env.dj,PP.env.dx,fun a z=>?_,PP.env.l1,PP.env.l2⟩,PP.fx,fun a o q n=>?_,PP.own,fun a o q=>?_,fun hp=>?_⟩ ⟨l,_,rfl,.inr (.inl ⟨by decide,aJ,rfl,NoA,fun _ z=>z.elim,?_⟩)⟩
 ·obtain ⟨v',d',g1,g2,g3⟩:=PP.env.at_ j u hu
  refine ⟨v',d',g1,g2,Ow.mv (G:=R2 j) ⟨fun a o q z=>keepl a o q fun za=>?_,fun a z=>.inl z⟩ u (fun _ z=>z) g3⟩
  subst za
  rcases z with z | z
  ·exact z (.inr lO)
  ·exact nl2 j z
 ·by_cases ha:a=l
  ·subst ha; exact ⟨_,aJ⟩
  ·obtain ⟨o,q⟩:=PP.env.dom a z
   exact ⟨o,keepl a o q ha⟩
 ·refine keepl a o (PP.keep a o q n) fun za=>?_
  subst za
  rw [hl0] at q
  cases q
 ·obtain ⟨o',q'⟩:=PP.dom a o q
  by_cases ha:a=l
  ·subst ha; exact ⟨_,aJ⟩
  ·exact ⟨o',keepl a o' q' ha⟩
 ·obtain ⟨b1,b2,b3⟩:=PP.pure hp
  refine ⟨b1,b2,fun a o q=>keepl a o (b3 a o q) fun za=>?_⟩
  subst za
  rw [hl0] at q
  cases q
 ·have op2:OwP K (Own R2 (U (fun b=>b=l) Ox)) (upd H2 l (.dK (eA [] kvs))) ks (kvs.map fun kv=>(kV kv.1,kv.2)):=by
   rw [e1] at op
   refine OwP.mv ⟨fun a o q z=>keepl a o q fun za=>?_,fun a z=>.inl z⟩ op
   subst za
   rcases z with z | z
   ·exact z (.inr lO)
   ·exact z
  exact mZ op2 rfl
theorem Br {keys:List (Option Expr)} {values:List Expr} {fs:List (ME × ME)} (h:PPs X pos keys values (trs K p ds fs)) (hall:keys.all (·.isSome)=true) (hl:keys.length=values.length) (h0:keys≠[]) (h15:keys.length≤15) :
  PE X (.Dict keys values pos) (tF K p ds ds 1 (jb fs)):=(Ax h hall hl h0 h15).imp fun _ _ _=>Fk
theorem EN:PPs X pos [] [] (trs K p ds []):=Aq
theorem Ba {k v:Expr} {ks:List (Option Expr)} {vs:List Expr} {fk fv:ME} {fs:List (ME × ME)} (hk:PE X k (tF K p ds ds 3 fk)) (hv:PE X v (tF K p ds ds 0 fv)) (hr:PPs X pos ks vs (trs K p ds fs)):PPs X pos (some k :: ks) (v :: vs) (trs K p ds ((fk,fv) :: fs)):=sB hk hv hr
def Hh (i j:Nat) (fa:MA):MS:=fun en=>(fa en).bind fun r=>match r.1 with
 | [.inl a,.inl b]=>some (.nx ((r.2.set i (some a)).set j (some b)))
 | _=>none
end
section
variable {X:Cx} {K:PySem.W.Frag}
end
end L2
namespace L2
open PySem PySem.Spec PyProof.Rows
section
variable {X:Cx} {K:PySem.W.Frag} {O:AS} {H:Hp} {ts us:List D} {vs ws:List V} {x y:V} {d:Nat} {Q:VK}
def FG (K:PySem.W.Frag):List V→Hp→VK→Prop:=fun xs H Q=>∃ (p:Addr) (ns:List Int),xs=[.ref p]∧SqL K H p (ns.map V.int)∧Q (.int ns.sum) H
theorem rT (hc:X.calm=true):CallR X (.builtin "sum") (FG X.K):=by
 intro pins s σ H xs us Q I r h
 obtain ⟨p,ns,rfl,hp,q⟩:=h
 obtain ⟨u,rfl,ru⟩:=da r
 cases ru
 obtain ⟨its,rv,pl,hz⟩:=I.list hp
 have hl:its.length=ns.length:=by rw [← rv.length,List.length_map]
 have hlt:p < s.heap.objs.size:=by
  obtain ⟨o,n,e,_⟩:=id pl
  exact Heap.lt_size e
 have hsz:its.toArray.size=ns.length:=by rw [List.size_toArray,hl]
 refine call_sum_walkAnyS (wpAny_pyIter_list pl.isList ?_)
 refine ⟨s.heap.objs.size,[s.heap.objs.size,p],[s.heap.objs.size],_,its.toArray.size,fun i v=>its.toArray[i]?=some v,_,fun i=>ns.getD i 0,rfl,(Walks.list (A:=X.A.in1) (show X.A.in1.handled=none from I.ok.hd hc) s.heap.objs.size p (Nat.ne_of_lt hlt) its.toArray).toS,?_,?_,?_,?_⟩
 ·exact ⟨⟨_,Heap.get?_push_size _ rfl,rfl,rfl⟩,pl.isList.push _⟩
 ·intro b hb
  show b < (s.heap.push _).objs.size
  rw [Heap.size_push]
  have hb':b=s.heap.objs.size∨b=p:=by simpa using hb
  rcases hb' with rfl | rfl
  ·exact Nat.lt_succ_self _
  ·exact Nat.lt_succ_of_lt hlt
 ·intro i v hv
  have hv':its[i]?=some v:=by simpa using hv
  have hi:i < ns.length:=by
   rw [← hl]
   exact (List.getElem?_eq_some_iff.mp hv').1
  obtain ⟨u,hu,ru⟩:=rv.get (i:=i) (x:=V.int ns[i]) (by rw [List.getElem?_map,List.getElem?_eq_getElem hi]; rfl)
  rw [hu] at hv'
  cases hv'
  obtain ⟨t,rfl⟩:=ru
  refine ⟨t,?_⟩
  show Value.int ns[i] t=Value.int (ns.getD i 0) t
  rw [List.getD_eq_getElem?_getD,List.getElem?_eq_getElem hi]
  rfl
 ·intro s' t' hm
  have e:preSum (fun i=>ns.getD i 0) its.toArray.size=ns.sum:=by
   rw [hsz,jl ns ns.length (Nat.le_refl _),List.take_length]
  rw [e]
  obtain ⟨hh,g,dr,tk,os'⟩:=s'
  have e1:dr=s.drawn:=hm.drawn
  have e2:os'=s.os:=hm.os
  have e3:g=s.gens:=hm.gens
  subst e1 e2 e3
  refine ⟨.int ns.sum,H,I.kept (t':=tk) fun b o z=>hm.heap b o ?_ (Heap.get?_push_of_some _ z),⟨_,rfl⟩,q⟩
  intro z'
  have z'':b=s.heap.objs.size:=by simpa using z'
  exact Nat.ne_of_lt (Heap.lt_size z) z''
def dG:List D→Option (List Int)
 | []=>some []
 | .int i :: r=>(dG r).map (i :: ·)
 | _ :: _=>none
theorem mR:∀ {ts:List D} {vs:List V} {bs:List Int},Ows K O H ts 0 vs NoA→dG ts=some bs→vs=bs.map V.int
 | [],_,_,h,hb=>by cases hb; exact h
 | .int b :: r,_,_,h,hb=>by
  obtain ⟨v,w,F1,F2,e,_,_,_,h4,h5⟩:=h
  obtain ⟨bs',h6,h7⟩:=Option.map_eq_some_iff.mp hb
  subst e h7
  rw [show v=.int b from h4,mR (Ows.any0 r h5) h6]
  rfl
 | .none :: _,_,_,_,hb=>by cases hb
 | .bool _ :: _,_,_,_,hb=>by cases hb
 | .str _ :: _,_,_,_,hb=>by cases hb
 | .list _ :: _,_,_,_,hb=>by cases hb
 | .tuple _ :: _,_,_,_,hb=>by cases hb
 | .dict _ :: _,_,_,_,hb=>by cases hb
def fK:List D→Option D
 | [.list ts]=>(dG ts).map fun ns=>.int ns.sum
 | _=>none
theorem nq (hK:X.K=K) (hc:X.calm=true):CallR X (.builtin "sum") (rFn K fK 3):=by
 subst hK
 refine (rT hc).imp fun xs H Q ⟨O,as,t,oa,hd,hg,k⟩=>?_
 match as,hg with
 | [.list ts],hg =>
  obtain ⟨ns,h1,rfl⟩:=Option.map_eq_some_iff.mp hg
  obtain ⟨v,rfl,o⟩:=oa.one
  obtain ⟨a,vs,rfl,fz,w⟩:=o.lst0
  have e:=mR w h1
  subst e
  exact ⟨a,ns,rfl,fz.sq,k _ H NoA .refl rfl⟩
end
end L2
namespace L2
open PySem PySem.Spec PyProof.Rows
section
variable {X:Cx} {K:PySem.W.Frag} {p:Bool} {ds ds1:List Nat} {O:AS} {H:Hp} {σ:St} {d:Nat} {f:ME} {i:Nat} {e:Expr} {Q:VK}
theorem Ows.cat {us:List D} {ws:List V} {F2:AS}:∀ {ts:List D} {vs:List V} {F1:AS},Ows K O H ts d vs F1→Ows K O H us d ws F2→(∀ b,F1 b→¬ F2 b)→Ows K O H (ts++us) d (vs++ws) (U F1 F2)
 | [],vs,F1,h,h2,_=>by
  have e:vs=[]:=h
  subst e
  exact Ows.mv (G:=fun _=>True) ⟨fun _ _ q _=>q,fun _ z=>.inl z⟩ us (fun _ _=>trivial) (Ows.grow (fun _ z=>z) us (fun _ z=>.inr z) h2)
 | u :: ts,vs,F1,h,h2,hd=>by
  obtain ⟨w,r,G1,G2,e,s1,s2,s3,h4,h5⟩:=h
  subst e
  refine ⟨w,r++ws,G1,U G2 F2,rfl,fun b z=>.inl (s1 b z),fun b z=>z.imp (s2 b) id,fun b z z2=>?_,h4,Ows.cat h5 h2 fun b z=>hd b (s2 b z)⟩
  rcases z2 with z2 | z2
  ·exact s3 b z z2
  ·exact hd b (s1 b z) z2
def jM (i:Nat) (f:ME):ME:=fun en=>match (en[i]?).join with
 | some (.list _)=>(f en).bind fun r=>match r.1,(r.2[i]?).join with
  | .list us,some (.list ts)=>if ts.length+us.length≤sizeLine then some (.none,r.2.set i (some (.list (ts++us)))) else none
  | _,_=>none
 | _=>none
theorem Gp (hd:ds1[i]?=some d) (hz:d≠0) (h:tF K false ds ds1 3 (jM i f) σ H Q):tBM K "list" oq (ff i) (iX (tF K p ds ds1 d f) mH) σ H Q:=by
 obtain ⟨Ox,en,R,t,en',e,hf,k⟩:=h
 unfold jM at hf
 split at hf
 case h_2=>cases hf
 next ts0 h0 =>
 obtain ⟨⟨t1,en1⟩,h1,hf⟩:=Option.bind_eq_some_iff.mp hf
 dsimp only at hf
 split at hf
 case h_2=>cases hf
 next us ts h2 =>
 by_cases hlen:ts.length+us.length≤sizeLine
 case neg=>rw [if_neg hlen] at hf; cases hf
 rw [if_pos hlen] at hf
 cases hf
 obtain ⟨v,d0,a1,_,a3⟩:=e.at_ i _ (aU h0)
 obtain ⟨l0,vs0,e0,sq⟩:=a3.sqL
 refine ⟨v,a1,?_,Ox,en,R,_,en1,e,h1,fun x H1 R1 F P o=>?_⟩
 ·rw [e0]; exact .inl ⟨rfl,vs0,sq⟩
 obtain ⟨v',d',b1,b2,b3⟩:=P.env.at_ i _ (aU h2)
 rw [a1] at b1
 cases b1
 rw [hd] at b2
 cases b2
 obtain ⟨l,vs,el,hl,hr,F',hf',ow⟩:=b3.ownL hz
 obtain ⟨m,ws,em,hm,hFm,F2,hf2,ow2⟩:=o.ownL hz
 refine ⟨l,m,vs,ws,el,by rw [em],hl,hm,by rw [ow.len,ow2.len]; exact hlen,?_⟩
 have hi:i < en1.length:=(List.getElem?_eq_some_iff.mp (aU h2)).1
 have Fn:∀ a,F a→a≠l:=fun a z z2=>by
  subst z2
  exact P.env.dx i a hr (.inl z)
 have sub:=iN (i:=i) (R1:=R1) (Ox:=Ox) (G:=fun a=>R1 i a∨F a) (F':=NoA) (F:=F) (fun _ z=>z) (fun _ z=>z.elim)
 have Ol:Own R1 (U F Ox) l:=.inl ⟨i,hr⟩
 refine k .non (upd H1 l (.lst (vs++ws))) _ NoA (P.slot (G:=fun a=>R1 i a∨F a) hr hi a1 hd (fun _ z=>z) (fun _ z=>z.elim) (fun _ _ z=>z) ?_) rfl
 refine ⟨l,vs++ws,el,.inr ⟨hz,aJ,.inl hr,U F' F2,fun b z=>?_,?_⟩⟩
 ·rcases z with z | z
  ·exact ⟨.inl (hf' b z).1,(hf' b z).2⟩
  ·exact ⟨.inr (hf2 b z).1,Fn b (hf2 b z).1⟩
 ·exact Ows.cat (Ows.past sub Ol (fun b z=>(hf' b z).2) ow) (Ows.past sub Ol (fun b z=>Fn b (hf2 b z).1) ow2) fun b z1 z2=>P.env.dx i b (hf' b z1).1 (.inl (hf2 b z2).1)
theorem Fb {x:Str} {px apos cpos:Pos} (hK:X.K=K) (hN:X.N[i]?=some x) (hv:Vis X.env.scope x) (h1:ds1[i]?=some d) (he:PE X e (tF K false ds ds1 d f)) (hz:d≠0)
  (hd:(x == ("__debug__" : Str))=false) (hcd:(x == ("__classdict__" : Str))=false)
  (hbase:attributeBase (.Name x px) "extend" X.env (eval (.Name x px) X.env)=eval (.Name x px) X.env)
  (hfew:((backTo cpos (starEach [e] X.env)).all (fun x=>!x.1) && (backToKw cpos (keywordEach [] X.env)).all (fun x=>x.1.isSome) && decide (([e]:List Expr).length+([]:List Keyword).length+(if ([]:List Keyword).isEmpty then 0 else 1) < 30))=true)
  (hline:(apos.endLine == cpos.line)=true) (hs:starEach [e] X.env=[(false,eval e X.env)]) (hplain:(backTo cpos (starEach [] X.env)).any (·.1)=false) :
  PE X (.Call (.Attribute (.Name x px) "extend" apos) [e] [] cpos) (tF K false ds ds1 3 (jM i f)):=by
 subst hK
 exact (mt PySem.F.plainAttrs_list PySem.F.slot_list_extend PySem.F.type_list_extend qS (dF hN hv hd hcd) (dy he pa_nil hs) hbase hfew hline hs hplain).imp fun _ _ _=>Gp h1 hz
end
end L2
namespace L2
open PySem PySem.Spec PyProof.Rows
section
variable {X:Cx} {K:PySem.W.Frag} {p:Bool} {ds ds1:List Nat} {d:Nat} {fa:MA} {sh:Sh} {O O1:AS} {H0 H:Hp} {ts us:List D} {vs ws:List V} {a b:Addr}
def se (ts us:List D):List D:=List.zipWith (fun x y=>.tuple [x,y]) ts us
def He (fa:MA):MI:=fun en=>(fa en).bind fun r=>match r.1 with
 | [.inl (.list ts),.inl (.list us)]=>some (se ts us,r.2)
 | _=>none
end
end L2
namespace L2
open PySem PySem.Spec PyProof.Rows
section
variable {X:Cx} {K:PySem.W.Frag} {p:Bool} {ds ds1:List Nat} {d1:Nat} {e:Expr} {f:ME}
end
end L2
namespace L2
open PySem PySem.Spec PyProof.Rows
section
variable {X:Cx} {K:PySem.W.Frag} {p p1 p2:Bool} {ds ds1 ds2:List Nat} {d d1:Nat} {e:Expr} {f:ME} {fa:MA} {sh:Sh} {σ:St} {H:Hp} {Q:VK}
def eM (g:Str→List D→Option D) (f:ME) (fa:MA):ME:=fun en=>(f en).bind fun r=>match r.1 with
 | .str z=>(fa r.2).bind fun q=>(vals q.1).bind fun ts=>(g z ts).map fun t=>(t,q.2)
 | _=>none
structure MtF (K:PySem.W.Frag) (r:V→List V→Hp→VK→Prop) (g:Str→List D→Option D):Prop where
 h:∀ {O:AS} {H:Hp} {z:Str} {ts:List D} {xs:List V} {t:D} {Q:VK},Ows K O H ts 0 xs NoA→g z ts=some t→(∀ v,Ow K O H t 3 v NoA→Q v H)→r (.str z) xs H Q
theorem Fi {r:V→List V→Hp→VK→Prop} {g:Str→List D→Option D} (hr:MtF K r g) (hs:bR 0 sh=true) (h:tF K (p1 && p2) ds ds2 3 (eM g f fa) σ H Q):tBM K "str" r (tF K p1 ds ds1 d1 f) (tFA K p2 ds1 ds2 sh fa) σ H Q:=by
 obtain ⟨Ox,en,R,t,en',e,hf,k⟩:=h
 unfold eM at hf
 obtain ⟨⟨t1,en1⟩,h1,hf⟩:=Option.bind_eq_some_iff.mp hf
 dsimp only at hf
 split at hf
 case h_2=>cases hf
 next z =>
 obtain ⟨⟨as,en2⟩,h2,hf⟩:=Option.bind_eq_some_iff.mp hf
 obtain ⟨ts,h3,hf⟩:=Option.bind_eq_some_iff.mp hf
 obtain ⟨t',h4,hf⟩:=Option.map_eq_some_iff.mp hf
 cases hf
 refine ⟨Ox,en,R,.str z,en1,e,h1,fun x H1 R1 F1 P1 o1=>?_⟩
 have ex:x=.str z:=o1
 subst ex
 refine ⟨rfl,Ox,en1,R1,as,en2,P1.env0,h2,fun vs H2 R2 F P2 o=>?_⟩
 have P:=P1.after P2
 obtain ⟨F',s1,s2⟩:=OwA.ows hs h3 o
 have o2:Ows K (Own R2 Ox) H2 ts 0 vs F':=s2 _ (fun a z=>z.imp id .inr) fun a z z2=>by
  rcases z2 with ⟨i,z2⟩ | z2
  ·exact absurd (.inl z) (P.env.dx i a z2)
  ·exact absurd z2 (P.fx a z)
 refine hr.h (Ows.any0 ts o2) h4 fun v ov=>k v H2 R2 NoA (P.less fun _ z=>z.elim) ?_
 rw [fu]
 exact ov
def joinD:Str→List D→Option D
 | sep,[.list ts]=>(strsOf ts).bind fun ys=>if sep.length≤16∧(ys.map (·.length)).sum+ys.length≤1048576 then some (.str (Txt.join sep ys)) else none
 | sep,[.tuple ts]=>(strsOf ts).bind fun ys=>if sep.length≤16∧(ys.map (·.length)).sum+ys.length≤1048576 then some (.str (Txt.join sep ys)) else none
 | _,_=>none
where strsOf:List D→Option (List Str)
 | []=>some []
 | .str z :: r=>(strsOf r).map (z :: ·)
 | _ :: _=>none
theorem jF {O:AS}:∀ {ts:List D} {ys:List Str} {xs:List V},joinD.strsOf ts=some ys→Ows K O H ts 0 xs NoA→xs=ys.map V.str
 | [],ys,xs,h,o=>by
  cases h
  exact o
 | t :: ts,ys,xs,h,o=>by
  obtain ⟨v,r,F1,F2,e,_,_,_,h4,h5⟩:=o
  cases t with
  | str z =>
   obtain ⟨ys',h6,rfl⟩:=Option.map_eq_some_iff.mp h
   have e4:v=.str z:=h4
   rw [e,e4,jF h6 (Ows.any0 ts h5)]
   rfl
  | _=>cases h
theorem i9:MtF K (zB K) joinD where
 h:=fun {O H z ts xs t Q} o hg q=>by
  unfold joinD at hg
  split at hg
  ·next us =>
   obtain ⟨ys,h1,h2⟩:=Option.bind_eq_some_iff.mp hg
   by_cases hc:z.length≤16∧(ys.map (·.length)).sum+ys.length≤1048576
   case neg=>rw [if_neg hc] at h2; cases h2
   rw [if_pos hc] at h2
   cases h2
   obtain ⟨v,r,F1,F2,e,_,_,_,h4,h5⟩:=o
   have e5:r=[]:=h5
   subst e5 e
   obtain ⟨a,vs,rfl,fz,w⟩:=(Ow.any0 _ h4).lst0
   have e6:=jF h1 w
   subst e6
   exact ⟨z,ys,a,rfl,rfl,.inl fz.sq,hc.1,hc.2,q _ rfl⟩
  ·next us =>
   obtain ⟨ys,h1,h2⟩:=Option.bind_eq_some_iff.mp hg
   by_cases hc:z.length≤16∧(ys.map (·.length)).sum+ys.length≤1048576
   case neg=>rw [if_neg hc] at h2; cases h2
   rw [if_pos hc] at h2
   cases h2
   obtain ⟨v,r,F1,F2,e,_,_,_,h4,h5⟩:=o
   have e5:r=[]:=h5
   subst e5 e
   obtain ⟨a,vs,rfl,fz,w⟩:=(Ow.any0 _ h4).tup0
   have e6:=jF h1 w
   subst e6
   exact ⟨z,ys,a,rfl,rfl,.inr fz.sq,hc.1,hc.2,q _ rfl⟩
  ·cases hg
def GW:Str→List D→Option D
 | z,[.str y]=>some (.bool (Txt.startswith z y))
 | _,_=>none
def Hf:Str→List D→Option D
 | z,[.str y]=>some (.bool (Txt.endswith z y))
 | _,_=>none
def ki:Str→List D→Option D
 | z,[.str y]=>match Builtin.Str.occurrences z y 0 z.length 1 with
  | i :: _=>some (.int (i:Nat))
  | []=>none
 | _,_=>none
theorem sH {O:AS} {y:Str} {xs:List V} (o:Ows K O H [.str y] 0 xs NoA):xs=[.str y]:=by
 obtain ⟨v,r,F1,F2,e,_,_,_,h4,h5⟩:=o
 have e4:v=.str y:=h4
 have e5:r=[]:=h5
 rw [e,e4,e5]
theorem tL:MtF K qG ki where
 h:=fun {O H z ts xs t Q} o hg q=>by
  unfold ki at hg
  split at hg
  ·next y =>
   split at hg
   ·next i rest he =>
    cases hg
    exact ⟨z,y,i,rest,rfl,sH o,he,q _ rfl⟩
   ·cases hg
  ·cases hg
theorem Bp {o:Expr} {es:List Expr} {name:Str} {id:String} {apos cpos:Pos} {r:V→List V→Hp→VK→Prop} {g:Str→List D→Option D} (hK:X.K=K) (slot:Slot "str" name id) (hty:typeOf (.builtin id)=pure (.type "method_descriptor")) (hm:MtR X id r) (hr:MtF K r g) (ho:PE X o (tF K p ds ds1 d1 f)) (ha:PA X (e :: es) (tFA K p ds1 ds2 sh fa))
  (hsh:bR 0 sh=true) (hbase:attributeBase o name X.env (eval o X.env)=eval o X.env)
  (hfew:((backTo cpos (starEach (e :: es) X.env)).all (fun x=>!x.1) && (backToKw cpos (keywordEach [] X.env)).all (fun x=>x.1.isSome)
   && decide ((e :: es).length+([]:List Keyword).length+(if ([]:List Keyword).isEmpty then 0 else 1) < 30))=true)
  (hline:(apos.endLine == cpos.line)=true) (hs:starEach (e :: es) X.env=(false,eval e X.env) :: starEach es X.env) (hplain:(backTo cpos (starEach es X.env)).any (·.1)=false) :
  PE X (.Call (.Attribute o name apos) (e :: es) [] cpos) (tF K p ds ds2 3 (eM g f fa)):=by
 subst hK
 exact (mt PySem.F.plainAttrs_str slot hty hm ho ha hbase hfew hline hs hplain).imp fun _ _ _ h=>Fi hr hsh (by rw [Bool.and_self]; exact h)
end
end L2
namespace L2
open PySem PySem.Spec PyProof.Rows
section
variable {X:Cx} {K:PySem.W.Frag} {pins:List (Addr × Obj)} {σ:St} {H:Hp} {s:Shared} {O:AS}
end
section
open PySem.SeqAt Classical
variable {X:Cx} {K:PySem.W.Frag} {pins:List (Addr × Obj)} {σ:St} {H:Hp} {s:Shared} {O:AS}
end
end L2
namespace L2
open PySem PySem.Spec PyProof.Rows
section
variable {K:PySem.W.Frag} {O:AS} {H:Hp}
end
abbrev MP:=En→Option (List Nat × En)
section
variable {X:Cx} {K:PySem.W.Frag} {p p1 p2:Bool} {J:Jd} {ds ds1 ds2:List Nat} {H:Hp} {σ:St} {d d1 d2 i m:Nat} {f fk fe:ME} {mp:MP} {e b o:Expr} {Q:VK}
end
end L2
namespace L2
open PySem PySem.Spec PyProof.Rows
end L2
namespace L2
open PySem PySem.Spec PyProof.Rows
def pD (f:Nat→Str):Nat→List Str
 | 0=>[]
 | i+1=>if (pD f i).any (· == f i)=true then pD f i else pD f i++[f i]
section
variable {P:Program} {w:World} {A:Around} {R:Result→Shared→Prop} {I:Addr} {fp wr:List Addr} {G:Array GenState→Array GenState→Prop} {n:Nat} {Pi:Nat→Value→Prop} {St:Nat→Shared→Prop}
end
section
variable {P:Program} {w:World} {A:Around} {E:Value→Shared→Prop} {s:Shared}
def FF (z:Str) (i:Nat):Str:=match z.cps[i]? with
 | some c=>mk1 c
 | none=>""
end
end L2
namespace L2
open PySem PySem.Spec PyProof.Rows
section
variable {X:Cx} {K:PySem.W.Frag} {p p1 p2:Bool} {ds ds1 ds2:List Nat} {d d1 d2:Nat} {e k:Expr} {f f1 f2:ME} {fa:MA} {sh:Sh} {σ:St} {H:Hp} {Q Q':VK} {pos pos2 px py:Pos}
def G3:D→Option D
 | .str z=>grd (z.length < 4000) (.int (pD (FF z) z.length).length)
 | _=>none
def Hj:D→D→Option D
 | .list ts,.int (-1)=>some (.list ts.reverse)
 | _,_=>none
def Hb:D→D→Option D
 | .tuple ts,.int (-1)=>some (.tuple ts.reverse)
 | _,_=>none
def Hc:D→D→Option D
 | .str z,.int (-1)=>grd (z.length≤sizeLine) (.str ⟨z.cps.toList.reverse.toArray⟩)
 | _,_=>none
def G5 (fa:MA):MI:=fun en=>(fa en).bind fun r=>match r.1 with
 | [.inl (.str x),.inl (.str y)]=>some (se (cH x) (cH y),r.2)
 | _=>none
def isB:D→D→Option D
 | .bool a,.bool b=>some (.bool (a == b))
 | _,_=>none
end
end L2
namespace L2
open PySem PySem.Spec PyProof.Rows
section
variable {X:Cx} {K:PySem.W.Frag} {pins:List (Addr × Obj)} {σ:St} {H:Hp} {s:Shared} {O:AS}
end
end L2
namespace L2
open PySem PySem.Spec PyProof.Rows
section
variable {X:Cx} {K:PySem.W.Frag} {p p1 p2:Bool} {ds ds1 ds2:List Nat} {d d1 d2:Nat} {a b:Expr} {f f1 f2:ME} {σ:St} {H:Hp} {Q Q':VK} {pos:Pos} {ta tb:TE} {rest:List Expr}
def Hs:D→Option Int→Option Int→Option D
 | .tuple ts,lo,hi=>grd (¬ (HT.sIx ts.length 0 lo=0∧HT.sIx ts.length ts.length hi=ts.length)) (.tuple (dL ts lo hi))
 | _,_,_=>none
def Gy:D→Option Bool
 | .none=>some false
 | .bool b=>some b
 | .list ts=>some (!ts.isEmpty)
 | .tuple ts=>some (!ts.isEmpty)
 | _=>none
def Ho (f g:ME):ME:=fun en=>(f en).bind fun r=>(Gy r.1).bind fun c=>if c then some r else g r.2
end
end L2
namespace L2
open PySem PySem.Spec PyProof.Rows
section
variable {X:Cx} {K:PySem.W.Frag} {p p1 p2:Bool} {ds ds1 ds2:List Nat} {d d1 d2:Nat} {a b:Expr} {f f1 f2:ME} {σ:St} {H:Hp} {Q Q':VK} {pos:Pos}
end
end L2
namespace L2
open PySem PySem.Spec PyProof.Rows PySem.SeqAt PySem.MeetsSeq
section
variable {A:Around} {s:Shared}
end
section
variable {X:Cx} {pins:List (Addr × Obj)} {σ:St} {H:Hp} {s:Shared} {O:AS}
end
section
variable {X:Cx} {K:PySem.W.Frag}
end
end L2
namespace L2
open PySem PySem.Spec PyProof.Rows PySem.SeqAt PySem.MeetsSeq
def Hk:D→D→Option D
 | .tuple ts,.int k=>grd (1≤k∧k≤1000∧ts.length≤1000) (.tuple (List.replicate k.toNat ts).flatten)
 | _,_=>none
section
variable {X:Cx} {K:PySem.W.Frag}
def Hd:D→D→Option D
 | .int k,.str z=>grd (z.length≤4000∧1≤k∧k≤4000) (.str (Txt.mul z k))
 | _,_=>none
end
section
variable {X:Cx} {K:PySem.W.Frag}
end
section
variable {X:Cx} {K:PySem.W.Frag}
end
section
variable {X:Cx} {K:PySem.W.Frag} {p p1 p2:Bool} {ds ds1 ds2:List Nat} {d d1 d2:Nat} {e:Expr} {f f1 f2:ME} {σ:St} {H:Hp} {Q Q':VK}
end
def G8:D→D→Option D
 | .tuple ts,b=>grd (aA b=true∧aE ts=true∧bg ts≤60) (.int (ts.countP fun t=>peq t b:Nat))
 | _,_=>none
section
variable {X:Cx} {K:PySem.W.Frag} {p:Bool} {ds ds1 ds2:List Nat} {d d1 d2:Nat} {e:Expr} {f f1 f2:ME} {σ:St} {H:Hp} {Q Q':VK}
end
end L2
namespace L2
open PySem PySem.Spec PyProof.Rows HT
section
variable {prog:Program} {w:World} {A:Around} {E:Value→Shared→Prop} {s:Shared}
end
def Hg:D→Option Int→Option Int→Option D
 | .tuple ts,lo,hi=>some (.tuple (dL ts lo hi))
 | _,_,_=>none
section
variable {X:Cx} {K:PySem.W.Frag}
end
end L2
namespace L2
open PySem PySem.Spec PyProof.Rows
section
variable {P:Program} {w:World} {A:Around} {E:Value→Shared→Prop} {s:Shared}
end
section
variable {X:Cx} {K:PySem.W.Frag} {p p1 p2:Bool} {ds ds1 ds2:List Nat} {d d1 d2:Nat} {e k:Expr} {f f1 f2:ME} {fa:MA} {sh:Sh} {σ:St} {H:Hp} {Q Q':VK} {pos pos2 px py:Pos}
end
end L2
namespace L2
open PySem PySem.Spec PyProof.Rows PySem.SeqAt PySem.MeetsSeq
section
variable {X:Cx} {K:PySem.W.Frag}
end
section
variable {X:Cx} {K:PySem.W.Frag}
end
end L2
namespace L2
open PySem PySem.Spec PyProof.Rows PySem.SeqAt PySem.MeetsSeq
section
variable {X:Cx} {K:PySem.W.Frag} {p p1 p2:Bool} {ds ds1 ds2:List Nat} {d d1 d2:Nat} {e:Expr} {f f1 f2:ME} {σ:St} {H:Hp} {Q Q':VK} {i:Nat}
end
section
variable {X:Cx} {K:PySem.W.Frag} {p p1 p2 q:Bool} {J:Jd} {ds ds0 ds1 ds2 ds' dsi dps:List Nat} {d d' d1 d2 dr:Nat} {a b c e tg iter:Expr} {es:List Expr} {st:Stmt} {rest body bodyB:List Stmt} {f f1 f2 fk fe:ME} {c1 c2:MT} {fa:MA} {sh:Sh} {pos px:Pos} {i:Nat} {x:Str} {m m1 m2:MS} {g:MG} {gs:List D→En→Option En} {fi:MI} {lk:List Nat}
end
end L2
namespace L2
open PySem PySem.Spec PyProof.Rows
section
variable {prog:Program} {w:World} {A:Around} {E:Value→Shared→Prop} {s:Shared}
end
section
variable {prog:Program} {w:World} {A:Around} {E:Value→Shared→Prop} {s:Shared}
end
section
variable {X:Cx} {tg:Expr} {K:PySem.W.Frag}
end
section
variable {X:Cx} {K:PySem.W.Frag} {p:Bool} {ds ds1:List Nat} {d:Nat} {fa:MA} {sh:Sh} {O O1:AS} {H0 H:Hp} {ts us:List D} {vs ws:List V} {a b:Addr}
def G4 (fa:MA):MI:=fun en=>(fa en).bind fun r=>match r.1 with
 | [.inl (.tuple ts),.inl (.tuple us)]=>some (se ts us,r.2)
 | _=>none
end
end L2
namespace L2
open PySem PySem.Spec PyProof.Rows
section
variable {K:PySem.W.Frag} {p p1 p2 q:Bool} {J:Jd} {lk ds ds0 ds1 ds2 ds':List Nat} {d d' d1 d2:Nat} {f:ME} {i j:Nat} {g:MG} {gs:List D→En→Option En} {σ:St} {H:Hp} {Dn:Ends} {v:V} {vs:List V} {QS:St→Hp→Prop}
end
section
variable {X:Cx} {K:PySem.W.Frag} {J:Jd} {lk ds ds0 ds1 ds2 ds':List Nat} {e tg:Expr} {es:List Expr} {f:ME} {pos px:Pos} {i:Nat} {g:MG} {gs:List D→En→Option En}
end
end L2
namespace L2
open PySem PySem.Spec PyProof.Rows
section
variable {X:Cx} {K:PySem.W.Frag} {p:Bool} {ds:List Nat} {k v:Expr} {fk fv:ME} {pos:Pos} {σ:St} {H:Hp} {Q:VK} {O:AS}
end
end L2
namespace L2
open PySem PySem.Spec PyProof.Rows
structure QE (X:Cx) (e:Expr) (t:TE):Prop where
 h:PE X e t
structure QT (X:Cx) (e:Expr) (t:TT):Prop where
 h:PT X e t
structure QW (X:Cx) (e:Expr) (t:TT):Prop where
 h:PW X e t
structure QA (X:Cx) (e:List Expr) (t:TA):Prop where
 h:PA X e t
structure QS (X:Cx) (e:Stmt) (t:TS):Prop where
 h:PS X e t
structure QSs (X:Cx) (e:List Stmt) (t:TS):Prop where
 h:PSs X e t
structure QG (X:Cx) (e:Expr) (t:TG):Prop where
 h:PG X e t
structure QGs (X:Cx) (e:List Expr) (t:TGs):Prop where
 h:PGs X e t
structure QI (X:Cx) (tg e:Expr) (t:TI):Prop where
 h:PI X tg e t
structure QTs (X:Cx) (e:List Expr) (t:TT):Prop where
 h:PTs X e t
structure QO (X:Cx) (e:Option Expr) (t:TO):Prop where
 h:PO X e t
structure QPs (X:Cx) (pos:Pos) (ks:List (Option Expr)) (vs:List Expr) (t:List (TE × TE)):Prop where
 h:PPs X pos ks vs t
theorem qpt {X:Cx} {e:Expr} {t:TT} (h:QW X e t):QT X e t:=⟨h.h.pt⟩
section
variable {X:Cx} {K:PySem.W.Frag} {p p1 p2 q:Bool} {ds ds0 ds1 ds2 ds' dsi:List Nat} {d d' d1 d2:Nat} {a b c e:Expr} {es:List Expr} {f f1 f2:ME} {m c1 c2:MT} {fa:MA} {sh:Sh} {pos:Pos} {i:Nat} {x:Str}
theorem aa {x:Str} (hN:X.N[i]?=some x) (hv:Vis X.env.scope x) (h0:ds[i]?=some 0) (hd:(x == ("__debug__" : Str))=false) (hcd:(x == ("__classdict__" : Str))=false):QE X (.Name x pos) (tF K p ds ds 0 (ac i)):=⟨EX hN hv h0 hd hcd⟩
theorem ai {n:Int} {j}:QE X (.Constant (.int n) j pos) (tF K p ds ds 3 (eC (.int n))):=⟨E8⟩
theorem ja {n:Bool} {j}:QE X (.Constant (.bool n) j pos) (tF K p ds ds 3 (eC (.bool n))):=⟨Gh⟩
theorem bA {j}:QE X (.Constant .none j pos) (tF K p ds ds 3 (eC .none)):=⟨E4⟩
theorem a9 {n:Str} {j}:QE X (.Constant (.str n) j pos) (tF K p ds ds 3 (eC (.str n))):=⟨E2⟩
theorem pY {x:Str} {n:Int} {t:Tok} (hg:Gl X x) (hm:X.mg x=some (.int n t)) (hd:(x == ("__debug__" : Str))=false):QE X (.Name x pos) (tF K p ds ds 3 (eC (.int n))):=⟨tS hg hm hd⟩
theorem aj (h:QE X e (tF K p ds ds' d f)) (hd:d'≤d):QE X e (tF K p ds ds' d' f):=⟨EZ h.h hd⟩
theorem gq (h:QE X e (tF K p ds0 ds' d f)) (hd:leD ds0 ds=true):QE X e (tF K false ds ds' d f):=⟨Gf h.h hd⟩
theorem nv (h:QE X e (tF K true ds0 ds0 3 f)) (hd:leD ds0 ds=true):QE X e (tF K p ds ds 3 f):=⟨Fd h.h hd⟩
theorem ax {op:Operator} {g:D→D→Option D} (ho:OpR X (binaryOp op) (rF2 K g d)) (ha:QE X a (tF K p ds ds1 d1 f1)) (hb:QE X b (tF K p ds1 ds2 d2 f2)):QE X (.BinOp a op b pos) (tF K p ds ds2 d (e2 g f1 f2)):=⟨Gb ho ha.h hb.h⟩
theorem Bo {op:UnaryOp} {g:D→Option D} (ho:UnR X (unaryOp op) (rF1 K g d)) (ha:QE X a (tF K p ds ds1 d1 f1)):QE X (.UnaryOp op a pos) (tF K p ds ds1 d (e1 g f1)):=⟨F9 ho ha.h⟩
theorem dm {op:CmpOp} {g:D→D→Option D} (ho:OpR X (compareOp op) (rF2 K g d)) (ha:QE X a (tF K p ds ds1 d1 f1)) (hb:QE X b (tF K p ds1 ds2 d2 f2)) (hm:behindInMarks op b=false):QE X (.Compare a [op] [b] pos) (tF K p ds ds2 d (e2 g f1 f2)):=⟨Fc ho ha.h hb.h hm⟩
theorem aT {op:CmpOp} {g:D→D→Option D} (ho:OpR X (compareOp op) (rF2 K g d)) (ha:QE X a (tF K p ds ds1 d1 f1)) (hb:QE X b (tF K p ds1 ds2 d2 f2)) (hm:behindInMarks op b=false):QT X (.Compare a [op] [b] pos) (tFT K p ds ds2 (tV (e2 g f1 f2))):=⟨AY ho ha.h hb.h hm⟩
theorem bS (h:QE X e (tF K p ds ds' d f)) (he:∀ whole,isTrue e X.env whole=(do let v ← whole; standAt e.pos; holding [v] (truthy v))):QT X e (tFT K p ds ds' (tV f)):=⟨AW h.h he⟩
theorem lU (ha:QT X a (tFT K p ds ds1 c1)):QW X (.BoolOp .And [a] pos) (tFT K p ds ds1 c1):=⟨AT ha.h⟩
theorem gP (ha:QT X a (tFT K p ds ds1 c1)):QW X (.BoolOp .Or [a] pos) (tFT K p ds ds1 c1):=⟨EA ha.h⟩
theorem nk {rest:List Expr} (ha:QT X a (tFT K p ds ds1 c1)) (hb:QW X (.BoolOp .And (b :: rest) pos) (tFT K p ds1 ds1 c2)):QW X (.BoolOp .And (a :: b :: rest) pos) (tFT K p ds ds1 (cE c1 c2)):=⟨EB ha.h hb.h⟩
theorem gn {rest:List Expr} (ha:QT X a (tFT K p ds ds1 c1)) (hb:QW X (.BoolOp .Or (b :: rest) pos) (tFT K p ds1 ds1 c2)):QW X (.BoolOp .Or (a :: b :: rest) pos) (tFT K p ds ds1 (bOr c1 c2)):=⟨FZ ha.h hb.h⟩
theorem cA (ha:QT X a (tFT K p ds ds1 c1)):QT X (.UnaryOp .Not a pos) (tFT K p ds ds1 (cW c1)):=⟨AX ha.h⟩
theorem rz (h:QT X e (tFT K true ds0 ds0 c1)) (hd:leD ds0 ds=true):QT X e (tFT K p ds ds c1):=⟨AZ h.h hd⟩
theorem jI {op} (h:QE X a (tF K p ds ds1 d f)):QE X (.BoolOp op [a] pos) (tF K p ds ds1 d f):=⟨E3 h.h⟩
theorem nw {rest:List Expr} (ha:QE X a (tF K p ds ds1 d1 f1)) (hb:QE X (.BoolOp .And (b :: rest) pos) (tF K p ds1 ds1 d f2)):QE X (.BoolOp .And (a :: b :: rest) pos) (tF K p ds ds1 d (jN f1 f2)):=⟨Fg ha.h hb.h⟩
theorem Bq {rest:List Expr} (ha:QE X a (tF K p ds ds1 d1 f1)) (hb:QE X (.BoolOp .Or (b :: rest) pos) (tF K p ds1 ds1 d f2)):QE X (.BoolOp .Or (a :: b :: rest) pos) (tF K p ds ds1 d (eOr f1 f2)):=⟨Ga ha.h hb.h⟩
theorem k8 (hc:QT X c (tFT K p ds ds1 c1)) (ha:QE X a (tF K p ds1 ds2 d f1)) (hb:QE X b (tF K p ds1 ds2 d f2)):QE X (.IfExp c a b pos) (tF K p ds ds2 d (eIf c1 f1 f2)):=⟨Ge hc.h ha.h hb.h⟩
theorem af  : QA X [] (tFA K p ds ds [] ah):=⟨Bt⟩
theorem ad (ha:QE X e (tF K p ds ds1 d f)) (hr:QA X es (tFA K p ds1 ds2 sh fa)) (hs:aN e=true):QA X (e :: es) (tFA K p ds ds2 (.inl d :: sh) (ae f fa)):=⟨tY ha.h hr.h hs⟩
theorem bb {x:Str} (hN:X.N[i]?=some x) (hv:Vis X.env.scope x) (hr:QA X es (tFA K p ds ds2 sh fa)) (hd:(x == ("__debug__" : Str))=false) (hcd:(x == ("__classdict__" : Str))=false):QA X (.Name x pos :: es) (tFA K p ds ds2 (.inr i :: sh) (aL i fa)):=⟨tX hN hv hr.h hd hcd⟩
theorem bf {c:Nat} (h:QA X es (tFA K p ds ds1 sh fa)) (hs:bR c sh=true) (hd:dn d=c) (hz:d≠0):QE X (.List es pos) (tF K p ds ds1 d (ba fa)):=⟨E5 h.h hs hd hz⟩
theorem nu {c:Nat} {x1} (h:QA X es (tFA K p ds ds1 sh fa)) (hs:bR c sh=true) (hd:dn d=c):QE X (.Tuple es x1 pos) (tF K p ds ds1 d (fT fa)):=⟨EY h.h hs hd⟩
theorem aI {id:String} {x:Str} {px:Pos} {g:List D→Option D} (hc:CallR X (.builtin id) (rFn K g d)) (hg:Gl X x) (hm:X.mg x=none) (hv:bootBuiltins x=some (.builtin id)) (ha:QA X (e :: es) (tFA K p ds ds1 sh fa)) (hsh:bR 0 sh=true) (hn:x≠"__name__") (hdb:(x == ("__debug__" : Str))=false) (he:aN e=true) (hpl:es.all aN=true):QE X (.Call (.Name x px) (e :: es) [] pos) (tF K p ds ds1 d (eN g fa)):=⟨tW hc hg hm hv ha.h hsh hn hdb he hpl⟩
theorem cw {T:String} {x:Str} {px:Pos} {g:List D→Option D} (hc:CallR X (.type T) (rFn K g d)) (hg:Gl X x) (hm:X.mg x=none) (hv:bootBuiltins x=some (.type T)) (ha:QA X (e :: es) (tFA K p ds ds1 sh fa)) (hsh:bR 0 sh=true) (hn:x≠"__name__") (hdb:(x == ("__debug__" : Str))=false) (he:aN e=true) (hpl:es.all aN=true):QE X (.Call (.Name x px) (e :: es) [] pos) (tF K p ds ds1 d (eN g fa)):=⟨rL hc hg hm hv ha.h hsh hn hdb he hpl⟩
theorem aP {k:Nat} {x:Str} {ps:List Str} {px:Pos} {dps:List Nat} {dr:Nat} {F:List D→Option (D × En)} (G:Kn X.prog X.w X.K X.mg X.base k x ps (spF K dps dr F)) (hr:Room k X.A) (hg:Gl X x) (ha:QA X (e :: es) (tFA K p ds ds1 sh fa)) (hns:fg sh=true) (hcd:dM ds1 sh dps=true) (hdb:(x == ("__debug__" : Str))=false) (he:aN e=true) (hpl:es.all aN=true):QE X (.Call (.Name x px) (e :: es) [] pos) (tF K p ds ds1 dr (ar F fa)):=⟨Gg G hr hg ha.h hns hcd hdb he hpl⟩
theorem bF {k:Nat} {x:Str} {ps:List Str} {px:Pos} {dps:List Nat} {dr:Nat} {F:List D→Option (D × En)} (G:Kn X.prog X.w X.K X.mg X.base k x ps (spF K dps dr F)) (hr:Room k X.A) (hg:Gl X x) (ha:QA X (e :: es) (tFA K false ds ds1 sh fa)) (hcd:dM ds1 sh dps=true) (hdb:(x == ("__debug__" : Str))=false) (he:aN e=true) (hpl:es.all aN=true):QE X (.Call (.Name x px) (e :: es) [] pos) (tF K false ds ds1 dr (ar F fa)):=⟨E9 G hr hg ha.h hcd hdb he hpl⟩
theorem aH {g:D→D→Option D} (ho:IxR X (rF2 K g d)) (ha:QE X a (tF K p ds ds1 d1 f1)) (hb:QE X b (tF K p ds1 ds2 d2 f2)) (hs:gw b):QE X (.Subscript a b pos) (tF K p ds ds2 d (e2 g f1 f2)):=⟨Gd ho ha.h hb.h hs⟩
theorem tR {x:Str} {px:Pos} (hK:X.K=K) (hN:X.N[i]?=some x) (hv:Vis X.env.scope x) (h1:ds1[i]?=some 1) (hb:QE X b (tF K p ds ds1 d1 f)) (hs:gw b) (hd:(x == ("__debug__" : Str))=false) (hcd:(x == ("__classdict__" : Str))=false):QE X (.Subscript (.Name x px) b pos) (tF K p ds ds1 0 (cC i f)):=⟨E6 hK hN hv h1 hb.h hs hd hcd⟩
theorem gS {c:Nat} {x:Str} {px apos cpos:Pos} (hK:X.K=K) (hN:X.N[i]?=some x) (hv:Vis X.env.scope x) (h1:ds1[i]?=some d) (he:QE X e (tF K false ds ds1 c f)) (hz:d≠0) (hc:dn d=c) (hd:(x == ("__debug__" : Str))=false) (hcd:(x == ("__classdict__" : Str))=false) (hbase:attributeBase (.Name x px) "append" X.env (eval (.Name x px) X.env)=eval (.Name x px) X.env) (hfew:((backTo cpos (starEach [e] X.env)).all (fun x=>!x.1) && (backToKw cpos (keywordEach [] X.env)).all (fun x=>x.1.isSome) && decide (([e]:List Expr).length+([]:List Keyword).length+(if ([]:List Keyword).isEmpty then 0 else 1) < 30))=true) (hline:(apos.endLine == cpos.line)=true) (hs:starEach [e] X.env=[(false,eval e X.env)]) (hplain:(backTo cpos (starEach [] X.env)).any (·.1)=false):QE X (.Call (.Attribute (.Name x px) "append" apos) [e] [] cpos) (tF K false ds ds1 3 (bZ i f)):=⟨Fe hK hN hv h1 he.h hz hc hd hcd hbase hfew hline hs hplain⟩
theorem pX {c:Nat} {x:Str} {px apos cpos:Pos} (hK:X.K=K) (hN:X.N[i]?=some x) (hv:Vis X.env.scope x) (h1:ds1[i]?=some d) (he:QE X e (tF K false ds ds1 d1 f)) (hz:d≠0) (hc:dn d=c) (hd:(x == ("__debug__" : Str))=false) (hcd:(x == ("__classdict__" : Str))=false) (hbase:attributeBase (.Name x px) "pop" X.env (eval (.Name x px) X.env)=eval (.Name x px) X.env) (hfew:((backTo cpos (starEach [e] X.env)).all (fun x=>!x.1) && (backToKw cpos (keywordEach [] X.env)).all (fun x=>x.1.isSome) && decide (([e]:List Expr).length+([]:List Keyword).length+(if ([]:List Keyword).isEmpty then 0 else 1) < 30))=true) (hline:(apos.endLine == cpos.line)=true) (hs:starEach [e] X.env=[(false,eval e X.env)]) (hplain:(backTo cpos (starEach [] X.env)).any (·.1)=false):QE X (.Call (.Attribute (.Name x px) "pop" apos) [e] [] cpos) (tF K false ds ds1 c (fq i f)):=⟨tQ hK hN hv h1 he.h hz hc hd hcd hbase hfew hline hs hplain⟩
theorem bo  : QTs X [] (tFT K p ds ds cY):=⟨AV⟩
theorem rp (hc:QT X c (tFT K p ds ds1 c1)):QTs X [c] (tFT K p ds ds1 c1):=⟨AU hc.h⟩
theorem cv {elt tg iter:Expr} {ifs:List Expr} {scope:Scope} {ns:List Str} {js:List (Option Nat)} {fi:MI} {g:MG} {lk:List Nat} {cd:Nat} (B:BlkOkC X scope ns js) (hc:X.calm=true) (hi:QI X tg iter (tFI K p ds ds1 fi)) (hg:∀ C cl s₀ H₀ fp,QG (aR X scope ns C cl s₀ H₀ fp) tg (tFG K lk dsi dsi g)) (ht:∀ C cl s₀ H₀ fp,QTs (aR X scope ns C cl s₀ H₀ fp) ifs (tFT K true dsi dsi c1)) (he:∀ C cl s₀ H₀ fp,QE (aR X scope ns C cl s₀ H₀ fp) elt (tF K true dsi dsi cd f)) (hcap:fV ds1 js dsi=true) (hd:dn d=cd) (hz:d≠0) (hlk:lk=fU js 0) (hs:∀ x,foldedSetIterable iter X.env x=pure x):QE X (.ListComp elt [⟨tg,iter,ifs,0⟩] scope pos) (tF K p ds ds1 d (eLC true fi g c1 f js)):=⟨Gc B hc hi.h (fun C cl s₀ H₀ fp=>(hg C cl s₀ H₀ fp).h) (fun C cl s₀ H₀ fp=>(ht C cl s₀ H₀ fp).h) (fun C cl s₀ H₀ fp=>(he C cl s₀ H₀ fp).h) hcap hd hz hlk hs⟩
end
section
variable {X:Cx} {K:PySem.W.Frag} {p p1 p2 q:Bool} {J:Jd} {ds ds0 ds1 ds2 ds' dsi dps:List Nat} {d d' d1 d2 dr:Nat} {a b c e tg iter:Expr} {es:List Expr} {st:Stmt} {rest body bodyB:List Stmt} {f f1 f2 fk fe:ME} {c1 c2:MT} {fa:MA} {sh:Sh} {pos px:Pos} {i:Nat} {x:Str} {m m1 m2:MS} {g:MG} {gs:List D→En→Option En} {fi:MI} {lk:List Nat}
theorem bp  : QSs X [] (tFS K J ds ds bq):=⟨A1⟩
theorem ag (h1:QS X st (tFS K J ds ds1 m1)) (h2:QSs X rest (tFS K J ds1 ds2 m2)):QSs X (st :: rest) (tFS K J ds ds2 (ak m1 m2)):=⟨tw h1.h h2.h⟩
theorem ao (h1:QS X st (tFS K J ds ds1 m1)):QSs X [st] (tFS K J ds ds1 m1):=⟨A0 h1.h⟩
theorem eD (he:QE X e (tF K false ds ds1 d f)) (hs:swapsWith e none pos.line X.env=pure false):QS X (.Expr e pos) (tFS K J ds ds1 (bY f)):=⟨A9 he.h hs⟩
theorem ay (he:QE X e (tF K false ds ds1 J.dr f)) (hd:leD J.dsr ds1=true):QS X (.Return (some e) pos) (tFS K J ds ds' (aC f)):=⟨A7 he.h hd⟩
theorem fS  : QS X st (tFS K J ds ds' dD):=⟨rD⟩
theorem bx (hc:QT X c (tFT K false ds ds1 c1)) (ha:QSs X body (tFS K J ds1 ds2 m1)) (hb:QSs X bodyB (tFS K J ds1 ds2 m2)):QS X (.If c body bodyB pos) (tFS K J ds ds2 (sIf c1 m1 m2)):=⟨EM hc.h ha.h hb.h⟩
theorem al {x:Str} {pos':Pos} (hN:X.N.Nodup) (hi:X.N[i]?=some x) (hx:Loc X.env.scope x) (he:QE X e (tF K false ds ds1 d f)) (hds:ds1.set i d=ds') (hl:i < ds1.length) (hk:i ∉ J.lk) (hs:swapsWith e (some (.Name x pos')) pos.line X.env=pure false) (hf:X.fn x=true∨X.env.scope.names.lookup x=some .local):QS X (.Assign [.Name x pos'] e pos) (tFS K J ds ds' (aq i f)):=⟨A6 hN hi hx he.h hds hl hk hs hf⟩
theorem fR {x:Str} {spos pos':Pos} {elt:Expr} {ifs:List Expr} {scope:Scope} {ns:List Str} {js:List (Option Nat)} {cd:Nat} (hN:X.N.Nodup) (hi':X.N[i]?=some x) (hx:X.env.scope.names.lookup x=some .local) (B:BlkOkC X scope ns js) (hc:X.calm=true) (hi:QI X tg iter (tFI K false ds ds1 fi)) (hg:∀ C cl s₀ H₀ fp,QG (aR X scope ns C cl s₀ H₀ fp) tg (tFG K lk dsi dsi g)) (ht:∀ C cl s₀ H₀ fp,QTs (aR X scope ns C cl s₀ H₀ fp) ifs (tFT K q dsi dsi c1)) (he:∀ C cl s₀ H₀ fp,QE (aR X scope ns C cl s₀ H₀ fp) elt (tF K q dsi dsi cd f)) (hds:ds1.set i d=ds') (hcap:fV ds1 js dsi=true) (hd:dn d=cd) (hz:d≠0) (hlk:lk=fU js 0) (hl:i < ds1.length) (hk:i ∉ J.lk) (hsw:swapsWith (.ListComp elt [⟨tg,iter,ifs,0⟩] scope pos) (some (.Name x pos')) spos.line X.env=pure true) (hs:∀ x,foldedSetIterable iter X.env x=pure x):QS X (.Assign [.Name x pos'] (.ListComp elt [⟨tg,iter,ifs,0⟩] scope pos) spos) (tFS K J ds ds' (aq i (eLC q fi g c1 f js))):=⟨rC hN hi' hx B hc hi.h (fun C cl s₀ H₀ fp=>(hg C cl s₀ H₀ fp).h) (fun C cl s₀ H₀ fp=>(ht C cl s₀ H₀ fp).h) (fun C cl s₀ H₀ fp=>(he C cl s₀ H₀ fp).h) hds hcap hd hz hlk hl hk hsw hs⟩
theorem pV {c:Nat} {x:Str} {spos:Pos} {k:Expr} (hN:X.N[i]?=some x) (hv:Vis X.env.scope x) (he:QE X e (tF K false ds ds1 c fe)) (hk:QE X k (tF K false ds1 ds2 d2 fk)) (h1:ds2[i]?=some d) (hz:d≠0) (hc:dn d=c) (hdb:(x == ("__debug__" : Str))=false) (hcd:(x == ("__classdict__" : Str))=false) (ha:∀ v,assign (.Subscript (.Name x px) k spos) X.env v=(do
   let ov ← holding [v] (eval (.Name x px) X.env)
   let iv ← holding [v,ov] (eval k X.env)
   standAt spos
   holding [v,ov,iv] (setItem ov iv v)
   release [v,ov,iv] [])) (hs:swapsWithSole [.Subscript (.Name x px) k spos] e pos.line X.env=pure false) (hw:swappedStores [.Subscript (.Name x px) k spos] e X.env=pure none) (h2:(assignEach [.Subscript (.Name x px) k spos] X.env).map (·.2)=[assign (.Subscript (.Name x px) k spos) X.env]):QS X (.Assign [.Subscript (.Name x px) k spos] e pos) (tFS K J ds ds2 (dC i fk fe)):=⟨tG hN hv he.h hk.h h1 hz hc hdb hcd ha hs hw h2⟩
theorem aD {x:Str} (hN:X.N.Nodup) (hi:X.N[i]?=some x) (hx:Loc X.env.scope x) (hds:ds.set i 0=ds') (hl:i < ds.length) (hk:i ∉ lk) (hf:X.fn x=true∨X.env.scope.names.lookup x=some .local):QG X (.Name x pos) (tFG K lk ds ds' (gN i)):=⟨tO hN hi hx hds hl hk hf⟩
theorem pW  : QGs X [] (eI K lk ds ds gs0):=⟨tM⟩
theorem jp (h1:QG X e (tFG K lk ds ds1 g)) (h2:QGs X es (eI K lk ds1 ds2 gs)) (hs:(assignEach (e :: es) X.env).map (·.2)=assign e X.env :: (assignEach es X.env).map (·.2)):QGs X (e :: es) (eI K lk ds ds2 (gsC g gs)):=⟨rH h1.h h2.h hs⟩
theorem rJ {k n:Nat} (hK:X.K=K) (hc:X.calm=true) (h:QGs X es (eI K lk ds ds1 gs)) (hl:∀ ts en,(∃ en',gs ts en=some en')→ts.length=n) (hn:(assignEach es X.env).length=n) (hst:(assignEach es X.env).findIdx? (·.1)=none):QG X (.Tuple es k pos) (tFG K lk ds ds1 (gT gs)):=⟨Bm hK hc h.h hl hn hst⟩
theorem cB (hc:X.calm=true) (hi:QI X tg iter (tFI K false ds ds1 fi)) (hg:QG X tg (tFG K J.lk ds1 ds2 g)) (hb:QSs X body (tFS K { J with dsl:=ds1 } ds2 ds1 m)) (hp:PassesOwn (model X.prog X.w) X.A X.env X.xe) (hs:∀ x,foldedSetIterable iter X.env x=pure x):QS X (.For tg iter body [] pos) (tFS K J ds ds1 (dk fi g m)):=⟨A8 hc hi.h hg.h hb.h hp hs⟩
theorem jo (hc:QT X c (tFT K false ds ds1 c1)) (hb:QSs X body (tFS K { J with dsl:=ds } ds1 ds m)) (hp:PassesOwn (model X.prog X.w) X.A X.env X.xe):QS X (.While c body [] pos) (tFS K J ds ds1 (bG c1 m)):=⟨rB hc.h hb.h hp⟩
end
section
variable {X:Cx} {K:PySem.W.Frag} {p:Bool} {ds ds1:List Nat} {d:Nat} {e tg l:Expr} {f:ME} {fa:MA} {sh:Sh}
theorem bz (hK:X.K=K) (hl:QE X l (tF K p ds ds1 d f)):QI X tg l (tFI K p ds ds1 (bt f)):=⟨EV hK hl.h⟩
theorem dA {a:Expr} {px pos:Pos} (hg:Gl X "range") (hm:X.mg "range"=none) (ha:QA X [a] (tFA K p ds ds1 sh fa)) (hs:aN a=true):QI X tg (.Call (.Name "range" px) [a] [] pos) (tFI K p ds ds1 (bu fa)):=⟨Bi hg hm ha.h hs⟩
theorem rG {px pos:Pos} {elts:List Expr} {k:Nat} {tp:Pos} (hK:X.K=K) (hg:Gl X "enumerate") (hm:X.mg "enumerate"=none) (ha:QA X [l] (tFA K p ds ds1 sh fa)) (hs:starEach [l] X.env=[(false,eval l X.env)]):QI X (.Tuple elts k tp) (.Call (.Name "enumerate" px) [l] [] pos) (tFI K p ds ds1 (iA fa)):=⟨Bj hK hg hm ha.h hs⟩
end
section
variable {X:Cx} {K:PySem.W.Frag} {p:Bool} {ds ds1:List Nat} {d1:Nat} {e:Expr} {f:ME}
theorem jJ {T:Str} {n:String} {px pt pos:Pos} (hK:X.K=K) (hg:Gl X "isinstance") (hm:X.mg "isinstance"=none) (hgT:Gl X T) (hmT:X.mg T=none) (hbT:bootBuiltins T=some (.type n)) (hT:n∈["int", "bool", "str", "list", "tuple", "dict"]) (he:QE X e (tF K p ds ds1 d1 f)) (hnT:T≠"__name__") (hdT:(T == ("__debug__" : Str))=false) (hs1:starEach [e,.Name T pt] X.env=(false,eval e X.env) :: starEach [.Name T pt] X.env) (hs2:starEach [.Name T pt] X.env=(false,eval (.Name T pt) X.env) :: starEach [] X.env) (hpl:(backTo pos (starEach [.Name T pt] X.env)).any (·.1)=false):QE X (.Call (.Name "isinstance" px) [e,.Name T pt] [] pos) (tF K p ds ds1 3 (e1 (aM n) f)):=⟨E7 hK hg hm hgT hmT hbT hT he.h hnT hdT hs1 hs2 hpl⟩
end
section
variable {X:Cx} {K:PySem.W.Frag} {p:Bool} {J:Jd} {ds ds0 ds1 ds2 ds3 ds':List Nat} {d d' d1 d2 d3:Nat} {a b c e:Expr} {st:Stmt} {f f1 f2 f3:ME} {m:MS} {pos p2:Pos}
theorem iC (h:QS X st (tFS K J ds ds2 m)) (hd:leD ds1 ds2=true):QS X st (tFS K J ds ds1 m):=⟨A5 h.h hd⟩
theorem iF  : QO X none (tFO K p ds ds iZ):=⟨Bd⟩
theorem iE (h:QE X e (tF K p ds ds1 d f)):QO X (some e) (tFO K p ds ds1 (gE f)):=⟨Bc h.h⟩
variable {lo hi:MO}
theorem gR {g:D→Option Int→Option Int→Option D} {elo ehi:Option Expr} (hr:SlR X (rFs K g d)) (he:QE X e (tF K p ds ds1 d1 f)) (hl:QO X elo (tFO K p ds1 ds2 lo)) (hu:QO X ehi (tFO K p ds2 ds3 hi)):QE X (.Subscript e (.Slice elo ehi none p2) pos) (tF K p ds ds3 d (eSl g f lo hi)):=⟨tP hr he.h hl.h hu.h⟩
end
section
variable {X:Cx} {K:PySem.W.Frag} {p:Bool} {J:Jd} {ds ds0 ds1 ds2 ds':List Nat} {d d' d1 d2:Nat} {a b c e o k:Expr} {f f1 f2 fk fe:ME} {pos px spos:Pos} {i:Nat} {σ:St} {H:Hp} {Q:VK} {Dn:Ends}
theorem dI {x:Str} (hu:X.A.units+1 < cLine) (hN:X.N[i]?=some x) (hv:Vis X.env.scope x) (h1:ds1[i]?=some 1) (hi:QE X k (tF K p ds ds1 d1 f)) (hs:qc k) (hd:(x == ("__debug__" : Str))=false) (hcd:(x == ("__classdict__" : Str))=false):QE X (.Subscript (.Name x px) k pos) (tF K p ds ds1 0 (bv i f)):=⟨tU hu hN hv h1 hi.h hs hd hcd⟩
theorem gQ {x:Str} (hu:X.A.units+1 < cLine) (hN:X.N[i]?=some x) (hv:Vis X.env.scope x) (he:QE X e (tF K false ds ds1 0 fe)) (hk:QE X k (tF K false ds1 ds2 d2 fk)) (h1:ds2[i]?=some 1) (hdb:(x == ("__debug__" : Str))=false) (hcd:(x == ("__classdict__" : Str))=false) (hs:swapsWith e (some (.Subscript (.Name x px) k spos)) pos.line X.env=pure false):QS X (.Assign [.Subscript (.Name x px) k spos] e pos) (tFS K J ds ds2 (cz i fk fe)):=⟨tH hu hN hv he.h hk.h h1 hdb hcd hs⟩
end
section
variable {X:Cx} {K:PySem.W.Frag} {p:Bool} {J:Jd} {ds ds0 ds1 ds2 ds':List Nat} {d d' d1 d2:Nat} {a b c e o k:Expr} {es:List Expr} {f f1 f2 fk fe:ME} {fa:MA} {sh:Sh} {pos px spos:Pos} {i j:Nat} {σ:St} {H:Hp} {Q:VK} {Dn:Ends}
theorem rK {keys:List (Option Expr)} {values:List Expr} {fs:List (ME × ME)} (h:QPs X pos keys values (trs K p ds fs)) (hall:keys.all (·.isSome)=true) (hl:keys.length=values.length) (h0:keys≠[]) (h15:keys.length≤15):QE X (.Dict keys values pos) (tF K p ds ds 1 (jb fs)):=⟨Br h.h hall hl h0 h15⟩
theorem tI  : QPs X pos [] [] (trs K p ds []):=⟨EN⟩
theorem iD {k v:Expr} {ks:List (Option Expr)} {vs:List Expr} {fk fv:ME} {fs:List (ME × ME)} (hk:QE X k (tF K p ds ds 3 fk)) (hv:QE X v (tF K p ds ds 0 fv)) (hr:QPs X pos ks vs (trs K p ds fs)):QPs X pos (some k :: ks) (v :: vs) (trs K p ds ((fk,fv) :: fs)):=⟨Ba hk.h hv.h hr.h⟩
end
section
variable {X:Cx} {K:PySem.W.Frag} {p:Bool} {ds ds1:List Nat} {O:AS} {H:Hp} {σ:St} {d:Nat} {f:ME} {i:Nat} {e:Expr} {Q:VK}
theorem tT {x:Str} {px apos cpos:Pos} (hK:X.K=K) (hN:X.N[i]?=some x) (hv:Vis X.env.scope x) (h1:ds1[i]?=some d) (he:QE X e (tF K false ds ds1 d f)) (hz:d≠0) (hd:(x == ("__debug__" : Str))=false) (hcd:(x == ("__classdict__" : Str))=false) (hbase:attributeBase (.Name x px) "extend" X.env (eval (.Name x px) X.env)=eval (.Name x px) X.env) (hfew:((backTo cpos (starEach [e] X.env)).all (fun x=>!x.1) && (backToKw cpos (keywordEach [] X.env)).all (fun x=>x.1.isSome) && decide (([e]:List Expr).length+([]:List Keyword).length+(if ([]:List Keyword).isEmpty then 0 else 1) < 30))=true) (hline:(apos.endLine == cpos.line)=true) (hs:starEach [e] X.env=[(false,eval e X.env)]) (hplain:(backTo cpos (starEach [] X.env)).any (·.1)=false):QE X (.Call (.Attribute (.Name x px) "extend" apos) [e] [] cpos) (tF K false ds ds1 3 (jM i f)):=⟨Fb hK hN hv h1 he.h hz hd hcd hbase hfew hline hs hplain⟩
end
section
variable {X:Cx} {K:PySem.W.Frag} {p:Bool} {ds ds1:List Nat} {d:Nat} {fa:MA} {sh:Sh} {O O1:AS} {H0 H:Hp} {ts us:List D} {vs ws:List V} {a b:Addr}
end
section
variable {X:Cx} {K:PySem.W.Frag} {p:Bool} {ds ds1:List Nat} {d1:Nat} {e:Expr} {f:ME}
end
section
variable {X:Cx} {K:PySem.W.Frag} {p p1 p2:Bool} {ds ds1 ds2:List Nat} {d d1:Nat} {e:Expr} {f:ME} {fa:MA} {sh:Sh} {σ:St} {H:Hp} {Q:VK}
theorem eF {o:Expr} {es:List Expr} {name:Str} {id:String} {apos cpos:Pos} {r:V→List V→Hp→VK→Prop} {g:Str→List D→Option D} (hK:X.K=K) (slot:Slot "str" name id) (hty:typeOf (.builtin id)=pure (.type "method_descriptor")) (hm:MtR X id r) (hr:MtF K r g) (ho:QE X o (tF K p ds ds1 d1 f)) (ha:QA X (e :: es) (tFA K p ds1 ds2 sh fa)) (hsh:bR 0 sh=true) (hbase:attributeBase o name X.env (eval o X.env)=eval o X.env) (hfew:((backTo cpos (starEach (e :: es) X.env)).all (fun x=>!x.1) && (backToKw cpos (keywordEach [] X.env)).all (fun x=>x.1.isSome)
   && decide ((e :: es).length+([]:List Keyword).length+(if ([]:List Keyword).isEmpty then 0 else 1) < 30))=true) (hline:(apos.endLine == cpos.line)=true) (hs:starEach (e :: es) X.env=(false,eval e X.env) :: starEach es X.env) (hplain:(backTo cpos (starEach es X.env)).any (·.1)=false):QE X (.Call (.Attribute o name apos) (e :: es) [] cpos) (tF K p ds ds2 3 (eM g f fa)):=⟨Bp hK slot hty hm hr ho.h ha.h hsh hbase hfew hline hs hplain⟩
end
section
variable {X:Cx} {K:PySem.W.Frag} {p p1 p2:Bool} {J:Jd} {ds ds1 ds2:List Nat} {H:Hp} {σ:St} {d d1 d2 i m:Nat} {f fk fe:ME} {mp:MP} {e b o:Expr} {Q:VK}
end
section
variable {X:Cx} {K:PySem.W.Frag} {p p1 p2:Bool} {ds ds1 ds2:List Nat} {d d1 d2:Nat} {e k:Expr} {f f1 f2:ME} {fa:MA} {sh:Sh} {σ:St} {H:Hp} {Q Q':VK} {pos pos2 px py:Pos}
end
section
variable {X:Cx} {K:PySem.W.Frag} {p p1 p2:Bool} {ds ds1 ds2:List Nat} {d d1 d2:Nat} {a b:Expr} {f f1 f2:ME} {σ:St} {H:Hp} {Q Q':VK} {pos:Pos} {ta tb:TE} {rest:List Expr}
end
section
variable {X:Cx} {K:PySem.W.Frag} {p p1 p2:Bool} {ds ds1 ds2:List Nat} {d d1 d2:Nat} {a b:Expr} {f f1 f2:ME} {σ:St} {H:Hp} {Q Q':VK} {pos:Pos}
end
section
variable {X:Cx} {K:PySem.W.Frag} {p p1 p2:Bool} {ds ds1 ds2:List Nat} {d d1 d2:Nat} {e:Expr} {f f1 f2:ME} {σ:St} {H:Hp} {Q Q':VK}
end
section
variable {X:Cx} {K:PySem.W.Frag} {p:Bool} {ds ds1 ds2:List Nat} {d d1 d2:Nat} {e:Expr} {f f1 f2:ME} {σ:St} {H:Hp} {Q Q':VK}
end
section
variable {X:Cx} {K:PySem.W.Frag} {p p1 p2:Bool} {ds ds1 ds2:List Nat} {d d1 d2:Nat} {e k:Expr} {f f1 f2:ME} {fa:MA} {sh:Sh} {σ:St} {H:Hp} {Q Q':VK} {pos pos2 px py:Pos}
end
section
variable {X:Cx} {K:PySem.W.Frag} {p p1 p2:Bool} {ds ds1 ds2:List Nat} {d d1 d2:Nat} {e:Expr} {f f1 f2:ME} {σ:St} {H:Hp} {Q Q':VK} {i:Nat}
end
section
variable {X:Cx} {K:PySem.W.Frag} {p p1 p2 q:Bool} {J:Jd} {ds ds0 ds1 ds2 ds' dsi dps:List Nat} {d d' d1 d2 dr:Nat} {a b c e tg iter:Expr} {es:List Expr} {st:Stmt} {rest body bodyB:List Stmt} {f f1 f2 fk fe:ME} {c1 c2:MT} {fa:MA} {sh:Sh} {pos px:Pos} {i:Nat} {x:Str} {m m1 m2:MS} {g:MG} {gs:List D→En→Option En} {fi:MI} {lk:List Nat}
end
section
variable {X:Cx} {K:PySem.W.Frag} {p:Bool} {ds ds1:List Nat} {d:Nat} {fa:MA} {sh:Sh} {O O1:AS} {H0 H:Hp} {ts us:List D} {vs ws:List V} {a b:Addr}
end
section
variable {X:Cx} {K:PySem.W.Frag} {J:Jd} {lk ds ds0 ds1 ds2 ds':List Nat} {e tg:Expr} {es:List Expr} {f:ME} {pos px:Pos} {i:Nat} {g:MG} {gs:List D→En→Option En}
end
section
variable {X:Cx} {K:PySem.W.Frag} {p:Bool} {ds:List Nat} {k v:Expr} {fk fv:ME} {pos:Pos} {σ:St} {H:Hp} {Q:VK} {O:AS}
end
end L2
namespace L2
open PySem PySem.Spec PyProof.Rows
theorem Fun.okQ {P:Program} {w:World} {K:PySem.W.Frag} {mg:Str→Option Value} {base:Heap} {x qual:Str} {st:Stmt} {f:Addr} {fd:FuncData} {N ps:List Str} {k n dr:Nat} {dps ds0:List Nat} {J:Jd} {b:MS}
  (F:Fun K x qual st f fd) (S:FnScope N ps (am st)) (hl:dps.length=ps.length) (hn:N.length - dps.length=n) (hJ:J=⟨m5 dps,dps++List.replicate n 0,dr,[]⟩) (hd:ds0=dps++List.replicate n 0)
  (hb:∀ (cdv:Value) (A:Around) (outer:List Env) (s:Shared) (H:Hp) (E:XK),Room k (A.deeper (envOfC qual (am st) s.heap.objs.size f cdv)) →
   QSs (gX CX0 P w K mg base N qual (am st) f cdv A outer s H E).nox (bO st) (tFS K J ds0 ds0 b)):FnOk P w K mg base CX0 (k+1) f fd ps (spF K dps dr (fnF n dps b)):=by
 subst hJ hd
 exact F.ok S (fun vs H Q E h=>om hl h) fun cdv A outer s H vs Q E hr h=>⟨_,(hb cdv A outer s H E hr).h,Bg hn h⟩
def Ei (F:List D→Option (D × En)):Prop:=∀ ns:List Int,ns.length≤63→∃ outs,F [.list (ns.map .int)]=some (.bool true,outs)
def j6 (K:PySem.W.Frag):Sp:=fun vs H Q _=>∃ (a:Addr) (ns:List Int),vs=[.ref a]∧SqL K H a (ns.map V.int)∧(∀ b,H b=none∨∃ o xs,H b=some (.frz o (.lst xs)))∧ns.length≤63∧∀ H':Hp,Q (.bl true) H'
theorem jm {K:PySem.W.Frag} {O:AS} {H:Hp}:∀ ns:List Int,Ows K O H (ns.map .int) 0 (ns.map V.int) NoA
 | []=>rfl
 | n :: r=>⟨.int n,r.map V.int,NoA,NoA,rfl,fun _ z=>z,fun _ z=>z,fun _ z=>z.elim,rfl,jm r⟩
theorem Eh {K:PySem.W.Frag} {dr:Nat} {F:List D→Option (D × En)} (h:Ei F) {vs:List V} {H:Hp} {Q:VK} {E:XK} (q:j6 K vs H Q E):spF K [0] dr F vs H Q E:=by
 obtain ⟨a,ns,rfl,hs,_,hl,q⟩:=q
 obtain ⟨outs,e⟩:=h ns hl
 have fz:FzL K (fun _=>False) H a (ns.map V.int):=by
  rcases hs with hs | hs
  ·exact .inl ⟨hs,fun z=>z⟩
  ·exact .inr fun H'=>.inr hs
 have eO:Own (fun _=>NoA) NoA=(fun _=>False):=eh fun b=>⟨fun z=>z.elim (fun ⟨_,z⟩=>z) fun z=>z,fun z=>z.elim⟩
 refine ⟨NoA,[.list (ns.map .int)],fun _=>NoA,.bool true,outs,⟨fun i t hi=>?_,fun _ _ _ z=>z.elim,fun _ _ z=>z.elim,fun b z=>?_,rfl,rfl⟩,e,fun v H' R' Fr _ o=>?_⟩
 ·cases i with
  | zero =>
   have:t=.list (ns.map .int):=by
    have h2:some (some (PyData.list (ns.map .int)))=some (some t):=hi
    injection h2 with h3
    injection h3 with h4
    exact h4.symm
   subst this
   refine ⟨.ref a,0,rfl,rfl,?_⟩
   rw [eO]
   exact ⟨a,ns.map V.int,rfl,.inl ⟨rfl,fz,jm ns⟩⟩
  | succ i=>simp at hi
 ·rw [eO] at z
  exact z.elim
 ·rw [show v=.bl true from o]
  exact q H'
end L2
namespace L2
open PySem PySem.Spec PyProof.Rows
inductive All2 (r:D→D→Prop):List D→List D→Prop
 | nil:All2 r [] []
 | cons {a b:D} {as bs:List D} (h:r a b) (t:All2 r as bs):All2 r (a :: as) (b :: bs)
section
variable {c:MT} {b:MS} {en en1 en2:En} {fl:Fl} {t:D}
theorem gx:∀ {n m:Nat} {en:En} {fl:Fl},whN c b n en=some fl→n≤m→whN c b m en=some fl
 | 0,_,_,_,h,_=>by cases h
 | n+1,0,_,_,_,h=>by omega
 | n+1,m+1,en,fl,h,hm=>by
  unfold whN at h ⊢
  obtain ⟨r,h1,h⟩:=Option.bind_eq_some_iff.mp h
  rw [h1]
  show (if r.1=true then _ else _)=_
  by_cases hr:r.1=true
  ·rw [if_pos hr] at h ⊢
   obtain ⟨f1,h2,h⟩:=Option.bind_eq_some_iff.mp h
   rw [h2]
   cases f1 with
   | nx e=>exact gx (n:=n) (m:=m) h (by omega)
   | ct e=>exact gx (n:=n) (m:=m) h (by omega)
   | rt t e=>exact h
  ·rw [if_neg hr] at h ⊢
   exact h
theorem fG {n:Nat} (h:whN c b n en=some fl):bG c b en=some fl:=by
 have q:∃ n fl,whN c b n en=some fl:=⟨n,fl,h⟩
 unfold bG
 rw [dif_pos q]
 have h2:=q.choose_spec.choose_spec
 have h3:=gx h (Nat.le_max_left n q.choose)
 have h4:=gx h2 (Nat.le_max_right n q.choose)
 rw [h3] at h4
 exact h4.symm
theorem jj (h:c en=some (false,en1)):bG c b en=some (.nx en1):=by
 refine fG (n:=1) ?_
 unfold whN
 rw [h]
 rfl
theorem jk (h:c en=some (true,en1)) (h1:b en1=some (.nx en2)) (h2:bG c b en2=some fl):bG c b en=some fl:=by
 obtain ⟨n,h3⟩:=fM h2
 refine fG (n:=n+1) ?_
 unfold whN
 rw [h]
 show (b en1).bind _=_
 rw [h1]
 exact h3
theorem oH {g:MG} {c:MT} {f:ME} (I:Nat→En→Prop) (r:D→D→Prop) {N:Nat} (hs:∀ n t en,n < N→I n en→∃ en1 en2 q en3,g t en=some en1∧c en1=some (true,en2)∧f en2=some (q,en3)∧I (n+1) en3∧r t q) :
  ∀ (ts acc:List D) (n:Nat) (en:En),I n en→n+ts.length≤N→acc.length+ts.length≤sizeLine→∃ us en',lcF g c f ts acc en=some (acc++us,en')∧I (n+ts.length) en'∧All2 r ts us
 | [],acc,n,en,hi,_,_=>⟨[],en,by rw [List.append_nil]; rfl,hi,.nil⟩
 | t :: ts,acc,n,en,hi,hN,hl=>by
  have hN':n+(ts.length+1)≤N:=hN
  obtain ⟨en1,en2,q,en3,h1,h2,h3,h4,h5⟩:=hs n t en (by omega) hi
  have hl':acc.length+(ts.length+1)≤sizeLine:=hl
  obtain ⟨us,en',h6,h7,h8⟩:=oH I r hs ts (acc++[q]) (n+1) en3 h4 (by omega) (by rw [List.length_append]; show acc.length+1+_≤_; omega)
  refine ⟨q :: us,en',?_,by rw [show n+(t :: ts).length=n+1+ts.length by show n+(ts.length+1)=_; omega]; exact h7,.cons h5 h8⟩
  unfold lcF
  rw [h1]
  show (c en1).bind _=_
  rw [h2]
  show (f en2).bind _=_
  rw [h3]
  show (if acc.length < sizeLine then _ else _)=_
  rw [if_pos (by omega),h6]
  simp
theorem All2.ex {α:Type} {h:α→D} {Q:α→Prop}:∀ {ts us:List D},All2 (fun _ q=>∃ o,q=h o∧Q o) ts us→∃ os:List α,us=os.map h∧os.length=ts.length∧∀ o∈os,Q o
 | _,_,.nil=>⟨[],rfl,rfl,fun _ z=>by cases z⟩
 | _,_,.cons ⟨o,e,q⟩ t=>by
  obtain ⟨os,e1,e2,e3⟩:=All2.ex t
  refine ⟨o :: os,by rw [e,e1]; rfl,by show os.length+1=_+1; rw [e2],fun x hx=>?_⟩
  rcases List.mem_cons.mp hx with rfl | hx
  ·exact q
  ·exact e3 x hx
theorem eS {c:MT} {f:ME} {p:D→Bool} {F:D→D} {rest:En}:∀ (ts acc:List D) (o:Option D),(∀ t∈ts,c (some t :: rest)=some (p t,some t :: rest))→(∀ t∈ts,p t=true→f (some t :: rest)=some (F t,some t :: rest))→acc.length+ts.length≤sizeLine →
  ∃ o',lcF (gN 0) c f ts acc (o :: rest)=some (acc++(ts.filter p).map F,o' :: rest)
 | [],acc,o,_,_,_=>⟨o,by simp [lcF]⟩
 | t :: ts,acc,o,hc,hf,hl=>by
  have hl':acc.length+(ts.length+1)≤sizeLine:=hl
  cases hp:p t with
  | true =>
   obtain ⟨o',h⟩:=eS (c:=c) (f:=f) (p:=p) (F:=F) ts (acc++[F t]) (some t) (fun x hx=>hc x (List.mem_cons_of_mem _ hx)) (fun x hx=>hf x (List.mem_cons_of_mem _ hx)) (by rw [List.length_append]; show acc.length+1+_≤_; omega)
   refine ⟨o',?_⟩
   unfold lcF
   show ((c (some t :: rest)).bind _)=_
   rw [hc t List.mem_cons_self,hp]
   show ((f (some t :: rest)).bind _)=_
   rw [hf t List.mem_cons_self hp]
   show (if acc.length < sizeLine then _ else _)=_
   rw [if_pos (by omega)]
   dsimp only
   rw [h,List.filter_cons_of_pos hp]
   simp
  | false =>
   obtain ⟨o',h⟩:=eS (c:=c) (f:=f) (p:=p) (F:=F) ts acc (some t) (fun x hx=>hc x (List.mem_cons_of_mem _ hx)) (fun x hx=>hf x (List.mem_cons_of_mem _ hx)) (by omega)
   refine ⟨o',?_⟩
   unfold lcF
   show ((c (some t :: rest)).bind _)=_
   rw [hc t List.mem_cons_self,hp]
   show lcF (gN 0) c f ts acc (some t :: rest)=_
   rw [h,List.filter_cons_of_neg (by rw [hp]; decide)]
theorem i4 {f:ME} {F:D→D} {rest:En} (ts acc:List D) (o:Option D) (hf:∀ t∈ts,f (some t :: rest)=some (F t,some t :: rest)) (hl:acc.length+ts.length≤sizeLine) :
  ∃ o',lcF (gN 0) cY f ts acc (o :: rest)=some (acc++ts.map F,o' :: rest):=by
 obtain ⟨o',h⟩:=eS (c:=cY) (f:=f) (p:=fun _=>true) (F:=F) ts acc o (fun _ _=>rfl) (fun t ht _=>hf t ht) hl
 rw [List.filter_eq_self.mpr (fun _ _=>rfl)] at h
 exact ⟨o',h⟩
theorem tJ {g:MG} {b:MS} (I:Nat→En→Prop) {ts:List D} (hs:∀ i t en,ts[i]?=some t→I i en→∃ en1 en2,g t en=some en1∧(b en1=some (.nx en2)∨b en1=some (.ct en2))∧I (i+1) en2) {en:En} (h0:I 0 en) :
  ∃ en',cf g b ts en=some (.nx en')∧I ts.length en':=by
 suffices ∀ (us:List D) (i:Nat) (en:En),ts.drop i=us→i≤ts.length→I i en→∃ en',cf g b us en=some (.nx en')∧I ts.length en' from this ts 0 en rfl (Nat.zero_le _) h0
 intro us
 induction us with
 | nil =>
  intro i en hu hi h
  refine ⟨en,rfl,?_⟩
  have:ts.length - i=0:=by rw [← List.length_drop,hu]; rfl
  rw [show ts.length=i by omega]
  exact h
 | cons t us ih =>
  intro i en hu hi h
  have ht:ts[i]?=some t:=by
   have:(ts.drop i)[0]?=some t:=by rw [hu]; rfl
   rw [List.getElem?_drop] at this
   exact this
  obtain ⟨en1,en2,h1,h2,h3⟩:=hs i t en ht h
  have hl:i < ts.length:=(List.getElem?_eq_some_iff.mp ht).1
  have hd:ts.drop (i+1)=us:=by rw [← List.drop_drop,hu]; rfl
  obtain ⟨en',h4,h5⟩:=ih (i+1) en2 hd hl h3
  refine ⟨en',?_,h5⟩
  unfold cf
  rw [h1]
  show (b en1).bind _=_
  rcases h2 with h2 | h2
  ·rw [h2]; exact h4
  ·rw [h2]; exact h4
end
section
variable {c c1 c2:MT} {m1 m2 b:MS} {en en1 en2:En} {fl:Fl} {t t1 t2 u:D} {f f1 f2:ME} {g:D→D→Option D} {fa:MA} {i n:Nat} {x y:Bool} {F:List D→Option (D × En)} {as:List (D ⊕ Nat)} {ts:List D} {outs:En} {dps:List Nat}
theorem az (h1:m1 en=some (.nx en1)) (h2:m2 en1=some fl):ak m1 m2 en=some fl:=by unfold ak; rw [h1]; exact h2
theorem gt (h1:m1 en=some (.rt t en1)):ak m1 m2 en=some (.rt t en1):=by unfold ak; rw [h1]; rfl
theorem dJ {b:Bool} (h1:c en=some (b,en1)) (hb:b=true) (h2:m1 en1=some fl):sIf c m1 m2 en=some fl:=by unfold sIf; rw [h1,hb]; exact h2
theorem gu {b:Bool} (h1:c en=some (b,en1)) (hb:b=false) (h2:m2 en1=some fl):sIf c m1 m2 en=some fl:=by unfold sIf; rw [h1,hb]; exact h2
theorem bH (h:f en=some (t,en1)) (he:en1.set i (some t)=en2):aq i f en=some (.nx en2):=by unfold aq; rw [h,← he]; rfl
theorem nz (h:f en=some (t,en1)):bY f en=some (.nx en1):=by unfold bY; rw [h]; rfl
theorem gW (h:f en=some (t,en1)):aC f en=some (.rt t en1):=by unfold aC; rw [h]; rfl
theorem aV (h1:f1 en=some (t1,en1)) (h2:f2 en1=some (t2,en2)) (h:g t1 t2=some u):e2 g f1 f2 en=some (u,en2):=by
 unfold e2
 rw [h1]
 show (f2 en1).bind _=_
 rw [h2]
 show (g t1 t2).map _=_
 rw [h]
 rfl
theorem ny {b:Bool} (h1:c1 en=some (b,en1)) (hb:b=true):bOr c1 c2 en=some (true,en1):=by unfold bOr; rw [h1,hb]; rfl
theorem km {b:Bool} {r:Bool × En} (h1:c1 en=some (b,en1)) (hb:b=false) (h2:c2 en1=some r):bOr c1 c2 en=some r:=by unfold bOr; rw [h1,hb]; exact h2
theorem oU {b:Bool} {r:Bool × En} (h1:c1 en=some (b,en1)) (hb:b=true) (h2:c2 en1=some r):cE c1 c2 en=some r:=by unfold cE; rw [h1,hb]; exact h2
theorem oV {b:Bool} (h1:c1 en=some (b,en1)) (hb:b=false):cE c1 c2 en=some (false,en1):=by unfold cE; rw [h1,hb]; rfl
theorem ef {b:Bool} (h:f en=some (.bool b,en1)):tV f en=some (b,en1):=by unfold tV; rw [h]; rfl
theorem cL (h1:fa en=some (as,en1)) (h2:b8 as en1=some ts) (h:F ts=some (t,outs)) (hw:wb as outs en1=en2):ar F fa en=some (t,en2):=by
 subst hw
 unfold ar
 rw [h1]
 show (b8 as en1).bind _=_
 rw [h2]
 show (F ts).map _=_
 rw [h]
 rfl
theorem jL {g:List D→Option D} (h1:fa en=some (as,en1)) (h2:vals as=some ts) (h:g ts=some t):eN g fa en=some (t,en1):=by
 unfold eN
 rw [h1]
 show (vals as).bind _=_
 rw [h2]
 show (g ts).map _=_
 rw [h]
 rfl
theorem db {r:MA} (h1:f en=some (t,en1)) (h2:r en1=some (as,en2)):ae f r en=some (.inl t :: as,en2):=by
 unfold ae
 rw [h1]
 show (r en1).map _=_
 rw [h2]
 rfl
theorem ko (h1:fa en=some (as,en1)) (h2:vals as=some ts) (h:ts.length≤sizeLine):ba fa en=some (.list ts,en1):=by
 unfold ba
 rw [h1]
 show (vals as).bind _=_
 rw [h2]
 exact if_pos h
theorem Fm (h1:fa en=some (as,en1)) (h2:vals as=some ts) (h:ts.length≤sizeLine):fT fa en=some (.tuple ts,en1):=by
 unfold fT
 rw [h1]
 show (vals as).bind _=_
 rw [h2]
 exact if_pos h
theorem nA {us:List D} (h0:en[i]?=some (some (.list ts))) (h1:f en=some (t,en1)) (h2:en1[i]?=some (some (.list us))) (h:us.length < sizeLine) (he:en1.set i (some (.list (us++[t])))=en2):bZ i f en=some (.none,en2):=by
 unfold bZ
 rw [h0]
 show (f en).bind _=_
 rw [h1]
 show (match (en1[i]?).join with
  | some (.list ts)=>if ts.length < sizeLine then some (PyData.none,en1.set i (some (.list (ts++[t])))) else none
  | _=>none)=_
 rw [h2,← he]
 exact if_pos h
theorem kq {fi:MI} {g:MG} {js:List (Option Nat)} {q:Bool} {us:List D} {ex:En} (h1:fi en=some (ts,en1)) (h2:lcF g c f ts [] (bU js en1)=some (us,ex)) (he:(if q then en1 else wbB js ex en1)=en2):eLC q fi g c f js en=some (.list us,en2):=by
 unfold eLC
 rw [h1]
 show (lcF g c f ts [] (bU js en1)).map _=_
 rw [h2,← he]
 rfl
theorem Fp {fi:MI} {g:MG} (h1:fi en=some (ts,en1)) (h2:cf g b ts en1=some fl):dk fi g b en=some fl:=by
 unfold dk
 rw [h1]
 exact h2
theorem aG:100≤sizeLine:=by rw [sizeLine_eq]; decide
theorem bT (h:b (ts.map some++List.replicate n none)=some (.rt t en)):fnF n dps b ts=some (t,msk dps en):=by
 unfold fnF
 rw [h]
 rfl
end
namespace Pen2
def dB:MS:=(aC (jb [((eC (.str "script")),(ac 0)),((eC (.str "at")),(ac 1)),((eC (.str "left")),(eC (.int 0)))]))
def bV:List D→Option (D × En):=fnF 0 [0,0] dB
def c9:MS:=(ak (aq 2 (e2 be (e2 bE (e2 aY (e2 aY (e2 be (ac 0) (eC (.int 2147483629))) (e2 bE (eC (.int 40503)) (ac 1))) (eC (.int 24691))) (eC (.int 48271))) (eC (.int 2147483647))))
 (ak (aq 3 (e2 be (e2 aY (e2 aY (e2 bE (ac 2) (ac 2)) (e2 bE (eC (.int 69621)) (ac 2))) (ac 1)) (eC (.int 2147483629))))
 (aC (e2 cg (e2 be (e2 aY (e2 aY (e2 bE (ac 3) (ac 3)) (e2 bE (eC (.int 16807)) (ac 3))) (e2 bE (eC (.int 31)) (ac 1))) (eC (.int 1073741789))) (eC (.int 64))))))
def bK:List D→Option (D × En):=fnF 2 [0,0] c9
def eZ:MS:=(ak (aq 2 (bv 0 (eC (.str "at"))))
 (ak (aq 3 (bv 0 (eC (.str "script"))))
 (ak (sIf (tV (e2 eqD (bv 0 (eC (.str "left"))) (eC (.int 0)))) (ak (cz 0 (eC (.str "at")) (e2 aY (ac 2) (eC (.int 1))))
 (ak (aq 4 (eC (.int 0)))
 (ak (sIf (tV (e2 gtI (eN br (ae (ac 3) ah)) (eC (.int 0)))) (aq 4 (e2 ixA (ac 3) (e2 be (ac 2) (eN br (ae (ac 3) ah))))) bq)
 (ak (sIf (bOr (tV (e2 geI (ac 2) (eN br (ae (ac 3) ah)))) (tV (e2 ltI (eN gY (ae (ac 4) ah)) (e2 kT (eC (.int 10)) (eC (.int 18)))))) (aC (e2 be (ar bK (ae (ac 4) (ae (ac 2) ah))) (ac 1))) bq)
 (cz 0 (eC (.str "left")) (eN gY (ae (ac 4) ah))))))) bq)
 (ak (aq 5 (e2 be (bv 0 (eC (.str "left"))) (ac 1)))
 (ak (cz 0 (eC (.str "left")) (e2 cg (bv 0 (eC (.str "left"))) (ac 1)))
 (aC (ac 5)))))))
def aw:List D→Option (D × En):=fnF 4 [1,0] eZ
def penD (ns:List Int) (k l:Int):D:=.dict [(.str "script",.list (ns.map .int)),(.str "at",.int k),(.str "left",.int l)]
theorem mY {c k:Int} (h0:0≤k) (h1:k≤1000000000):∃ r,bK [.int c,.int k]=some (.int r,[none,none])∧0≤r:=by
 have a0:0≤c % 2147483629:=by omega
 have a1:c % 2147483629 < 2147483629:=by omega
 generalize g1:(c % 2147483629+40503 * k+24691) * 48271 % 2147483647=x
 have x0:0≤x:=by omega
 have x1:x < 2147483647:=by omega
 generalize g2:(x * x+69621 * x+k) % 2147483629=y
 have y0:0≤y:=by omega
 have y1:y < 2147483629:=by omega
 refine ⟨(y * y+16807 * y+31 * k) % 1073741789 / 64,?_,by omega⟩
 have c1:CMul 40503 k:=.inl (by decide)
 have c2:CMul (c % 2147483629+40503 * k+24691) 48271:=.inr (by decide)
 have c3:CMul x x:=.inl (by constructor <;> omega)
 have c4:CMul 69621 x:=.inl (by decide)
 have c5:CMul y y:=.inl (by constructor <;> omega)
 have c6:CMul 16807 y:=.inl (by decide)
 have c7:CMul 31 k:=.inl (by decide)
 have c8:∀ z,eQ z 64:=fun z=>by unfold eQ; decide
 simp [bK,fnF,c9,ak,aq,aC,e2,ac,eC,be,bE,aY,cg,fj,c1,c2,c3,c4,c5,c6,c7,c8,g1,g2,msk]
theorem take_ok {ns:List Int} {k l m:Int} (h0:0≤k) (h1:k≤1000000000) (h2:0≤l) (h3:0 < m) (h4:m < 1073741824) :
  ∃ r k' l',aw [penD ns k l,.int m]=some (.int r,[some (penD ns k' l'),none])∧0≤r∧r < m∧k≤k'∧k'≤k+1∧0≤l':=by
 have cd:∀ z,eQ z m:=fun z=>⟨h3,h4⟩
 have cp:ic 10 18:=by unfold ic; decide
 have md:∀ z,be (.int z) (.int m)=some (.int (z % m)):=fun z=>if_pos h3
 have dv:∀ z,cg (.int z) (.int m)=some (.int (z / m)):=fun z=>if_pos (cd z)
 have last:∀ (k' b:Int) (x y z:Option D),(ak (aq 5 (e2 be (bv 0 (eC (.str "left"))) (ac 1)))
   (ak (cz 0 (eC (.str "left")) (e2 cg (bv 0 (eC (.str "left"))) (ac 1)))
   (aC (ac 5)))) [some (penD ns k' b),some (.int m),x,y,z,none]=some (.rt (.int (b % m)) [some (penD ns k' (b / m)),some (.int m),x,y,z,some (.int (b % m))]):=by
  intro k' b x y z
  refine az (en1:=[some (penD ns k' b),some (.int m),x,y,z,some (.int (b % m))]) (bH (aV (t1:=.int b) (t2:=.int m) rfl rfl (md b)) rfl) (az (en1:=[some (penD ns k' (b / m)),some (.int m),x,y,z,some (.int (b % m))]) ?_ rfl)
  unfold cz
  rw [aV (t1:=.int b) (t2:=.int m) (f1:=bv 0 (eC (.str "left"))) (f2:=ac 1) (g:=cg) (en:=[some (penD ns k' b),some (.int m),x,y,z,some (.int (b % m))]) (en1:=[some (penD ns k' b),some (.int m),x,y,z,some (.int (b % m))]) (en2:=[some (penD ns k' b),some (.int m),x,y,z,some (.int (b % m))]) rfl rfl (dv b)]
  rfl
 by_cases hl:l=0
 ·subst hl
  by_cases hn:ns.length=0
  ·have hns:ns=[]:=List.length_eq_zero_iff.mp hn
   subst hns
   obtain ⟨r,e,hr⟩:=mY (c:=0) h0 h1
   refine ⟨r % m,k+1,0,?_,Int.emod_nonneg _ (by omega),Int.emod_lt_of_pos _ h3,by omega,by omega,by omega⟩
   refine bT (en:=[some (penD [] (k+1) 0),some (.int m),some (.int k),some (.list []),some (.int 0),none]) (az rfl (az rfl (gt (dJ (b:=true) rfl rfl (az (en1:=[some (penD [] (k+1) 0),some (.int m),some (.int k),some (.list []),none,none]) rfl (az rfl (az rfl (gt (dJ (b:=true) (ny (b:=decide ((0:Int)≤k)) rfl (decide_eq_true h0)) rfl (gW (aV (en1:=[some (penD [] (k+1) 0),some (.int m),some (.int k),some (.list []),some (.int 0),none]) (t2:=.int m) (cL (as:=[.inl (.int 0),.inl (.int k)]) (en1:=[some (penD [] (k+1) 0),some (.int m),some (.int k),some (.list []),some (.int 0),none]) rfl rfl e rfl) rfl (md r))))))))))))
  ·obtain ⟨j,ej⟩:∃ j:Nat,ixN ns.length (k % ns.length)=some j∧j < ns.length:=by
    have q1:0≤k % (ns.length:Int):=Int.emod_nonneg _ (by omega)
    have q2:k % (ns.length:Int) < ns.length:=Int.emod_lt_of_pos _ (by omega)
    exact ⟨(k % (ns.length:Int)).toNat,by unfold ixN; rw [if_pos q1,if_pos q2],by omega⟩
   obtain ⟨c,ec⟩:∃ c,ns[j]?=some c:=⟨_,List.getElem?_eq_getElem ej.2⟩
   have at1:ixA (.list (ns.map .int)) (.int (k % ns.length))=some (.int c):=by
    show atI _ _=_
    unfold atI
    rw [List.length_map,ej.1]
    show (ns.map PyData.int)[j]?=_
    rw [List.getElem?_map,ec]
    rfl
   have hn1:(0:Int) < ns.length:=by omega
   have len:br [.list (ns.map .int)]=some (.int ns.length):=by show some (PyData.int (ns.map PyData.int).length)=_; rw [List.length_map]
   have ml:be (.int k) (.int ns.length)=some (.int (k % ns.length)):=if_pos hn1
   obtain ⟨r,e,hr⟩:=mY (c:=c) h0 h1
   obtain ⟨b,ab,b0⟩:∃ b,gY [.int c]=some (.int b)∧0≤b:=⟨if c < 0 then -c else c,rfl,by split <;> omega⟩
   have pw:kT (.int 10) (.int 18)=some (.int 1000000000000000000):=by
    show (if ic 10 18 then some (PyData.int (10 ^ Int.toNat 18)) else none)=_
    rw [if_pos cp]; rfl
   have ln:∀ (x y:Option D) (p:D),(eN br (ae (ac 3) ah)) [some p,some (.int m),x,some (.list (ns.map .int)),y,none]=some (.int ns.length,[some p,some (.int m),x,some (.list (ns.map .int)),y,none]):=fun x y p=>jL rfl rfl len
   have pre:∀ (x y:Option D) {m2:MS} {fl:Fl},m2 [some (penD ns (k+1) 0),some (.int m),some (.int k),some (.list (ns.map .int)),some (.int c),none]=some fl→(ak (cz 0 (eC (.str "at")) (e2 aY (ac 2) (eC (.int 1))))
 (ak (aq 4 (eC (.int 0)))
 (ak (sIf (tV (e2 gtI (eN br (ae (ac 3) ah)) (eC (.int 0)))) (aq 4 (e2 ixA (ac 3) (e2 be (ac 2) (eN br (ae (ac 3) ah))))) bq) m2))) [some (penD ns k 0),some (.int m),some (.int k),some (.list (ns.map .int)),none,none]=some fl:=by
    intro x y m2 fl h
    refine az (en1:=[some (penD ns (k+1) 0),some (.int m),some (.int k),some (.list (ns.map .int)),none,none]) rfl (az (en1:=[some (penD ns (k+1) 0),some (.int m),some (.int k),some (.list (ns.map .int)),some (.int 0),none]) rfl (az ?_ h))
    exact dJ (ef (aV (ln _ _ _) rfl rfl)) (decide_eq_true hn1) (bH (aV rfl (aV rfl (ln _ _ _) ml) at1) rfl)
   by_cases hq:(ns.length:Int)≤k∨b < 1000000000000000000
   ·refine ⟨r % m,k+1,0,?_,Int.emod_nonneg _ (by omega),Int.emod_lt_of_pos _ h3,by omega,by omega,by omega⟩
    refine bT (en:=[some (penD ns (k+1) 0),some (.int m),some (.int k),some (.list (ns.map .int)),some (.int c),none]) (az rfl (az rfl (gt (dJ (b:=true) rfl rfl (pre none none (gt (dJ (en1:=[some (penD ns (k+1) 0),some (.int m),some (.int k),some (.list (ns.map .int)),some (.int c),none]) (b:=true) ?_ rfl (gW (aV (en1:=[some (penD ns (k+1) 0),some (.int m),some (.int k),some (.list (ns.map .int)),some (.int c),none]) (t2:=.int m) (cL (as:=[.inl (.int c),.inl (.int k)]) (en1:=[some (penD ns (k+1) 0),some (.int m),some (.int k),some (.list (ns.map .int)),some (.int c),none]) rfl rfl e rfl) rfl (md r))))))))))
    by_cases hq2:(ns.length:Int)≤k
    ·exact ny (ef (aV rfl (ln _ _ _) rfl)) (decide_eq_true hq2)
    ·have hq3:=hq.resolve_left hq2
     exact km (ef (aV rfl (ln _ _ _) rfl)) (decide_eq_false hq2) (ef (aV (jL rfl rfl ab) (aV rfl rfl pw) (congrArg (fun q=>some (PyData.bool q)) (decide_eq_true hq3))))
   ·have hq1:¬ (ns.length:Int)≤k:=fun z=>hq (.inl z)
    have hq2:¬ b < 1000000000000000000:=fun z=>hq (.inr z)
    refine ⟨b % m,k+1,b / m,?_,Int.emod_nonneg _ (by omega),Int.emod_lt_of_pos _ h3,by omega,by omega,Int.ediv_nonneg b0 (by omega)⟩
    refine bT (az rfl (az rfl (az (en1:=[some (penD ns (k+1) b),some (.int m),some (.int k),some (.list (ns.map .int)),some (.int c),none]) (dJ (b:=true) rfl rfl (pre none none (az (gu (km (ef (aV rfl (ln _ _ _) rfl)) (decide_eq_false hq1) (ef (aV (jL rfl rfl ab) (aV rfl rfl pw) rfl))) (decide_eq_false hq2) rfl) ?_))) (last _ _ _ _ _))))
    unfold cz
    rw [jL (fa:=ae (ac 4) ah) (en:=[some (penD ns (k+1) 0),some (.int m),some (.int k),some (.list (ns.map .int)),some (.int c),none]) (en1:=[some (penD ns (k+1) 0),some (.int m),some (.int k),some (.list (ns.map .int)),some (.int c),none]) rfl rfl ab]
    rfl
 ·refine ⟨l % m,k,l / m,?_,Int.emod_nonneg _ (by omega),Int.emod_lt_of_pos _ h3,Int.le_refl _,by omega,Int.ediv_nonneg h2 (by omega)⟩
  exact bT (az rfl (az rfl (az (gu (b:=l == 0) rfl (beq_eq_false_iff_ne.mpr hl) rfl) (last k l _ _ _))))
theorem dW {ns:List Int} {k l m:Int} {i:Nat} {en:En} {fa:MA} (hp:en[i]?=some (some (penD ns k l))) (hf:fa en=some ([.inr i,.inl (.int m)],en)) (h0:0≤k) (h1:k≤1000000000) (h2:0≤l) (h3:0 < m) (h4:m < 1073741824) :
  ∃ r k' l',ar aw fa en=some (.int r,en.set i (some (penD ns k' l')))∧0≤r∧r < m∧k≤k'∧k'≤k+1∧0≤l':=by
 obtain ⟨r,k',l',e,q⟩:=take_ok (ns:=ns) h0 h1 h2 h3 h4
 refine ⟨r,k',l',cL hf (ts:=[penD ns k l,.int m]) ?_ e rfl,q⟩
 unfold b8
 rw [hp]
 rfl
end Pen2
end L2
namespace L2
open PySem PySem.Spec PyProof.Rows
theorem rN {c:MT} {en en1:En} {b:Bool} (h:c en=some (b,en1)):cW c en=some (!b,en1):=by
 unfold cW
 rw [h]
 rfl
theorem Ft (a b:Int):eqD (.int a) (.int b)=some (.bool (a == b)):=by
 show grd _ _=_
 unfold grd
 rw [if_pos ⟨rfl,rfl,Nat.zero_le _⟩]
 simp only [peq]
theorem Eb (a b:Int):neD (.int a) (.int b)=some (.bool (!(a == b))):=by
 show grd _ _=_
 unfold grd
 rw [if_pos ⟨rfl,rfl,Nat.zero_le _⟩]
 simp only [peq]
end L2
namespace L2
open PySem PySem.Spec PyProof.Rows
structure Df (K:PySem.W.Frag) (x:Str) (st:Stmt) (f:Addr):Prop where
 a:PySem.W.nsIn K mainGlobals x=some (some (.ref f))
 l:∃ oc od kV dc pm an cd ct sl,K.lookup f=some ⟨oc,od,.func (PySem.W.fnOf x x (cM st) (bO st) (am st) .none kV dc pm an cd ct),sl⟩∧PySem.W.codeIn K cd x=true
 k:PySem.W.keepIn K (.ref f)=true
section
variable {P:Program} {w:World} {K:PySem.W.Frag} {mg:Str→Option Value} {base h:Heap} {k dr:Nat} {x:Str} {ps:List Str} {dps:List Nat} {f:Addr} {st:Stmt} {sp:Sp}
theorem Df.mk' {oc:Value} {od an:Option Addr} {sl:Array (Option Value)} {kV dc pm cd ct:Value} (a:PySem.W.nsIn K mainGlobals x=some (some (.ref f))) (l:K.lookup f=some ⟨oc,od,.func (PySem.W.fnOf x x (cM st) (bO st) (am st) .none kV dc pm an cd ct),sl⟩) (c:PySem.W.codeIn K cd x=true) (k:PySem.W.keepIn K (.ref f)=true):Df K x st f :=
 ⟨a,⟨oc,od,kV,dc,pm,an,cd,ct,sl,l,c⟩,k⟩
theorem Df.kn (d:Df K x st f) (X:K.In h) (G:h.Ns mainGlobals mg) (b:∀ (kV doc pm:Value) (an:Option Addr) (cdv ct:Value) (us:List Value),us.length=ps.length→bindArgs (PySem.W.fnOf x x (cM st) (bO st) (am st) .none kV doc pm an cdv ct) ⟨us,[]⟩=pure (ps.zip us))
  (ok:∀ fd,Fun K x x st f fd→FnOk P w K mg base CX0 k f fd ps sp):Kn P w K mg base k x ps sp:=by
 obtain ⟨_,_,_,_,_,_,_,_,_,l,c⟩:=d.l
 have F:=no (st:=st) l c d.k
 exact ⟨_,_,ok _ F,PySem.W.mg_of X G d.a,d.k,F.binds b⟩
end
end L2
namespace L2
namespace Pen3
open PySem L2
theorem sl1000:1000≤sizeLine:=by rw [sizeLine_eq]; decide
def dB:MS:=(ak (aq 2 (eC (.int 0)))
 (ak (sIf (tV (e2 gtI (eN br (ae (ac 0) ah)) (eC (.int 0)))) (aq 2 (e2 ixA (ac 0) (e2 be (ac 1) (eN br (ae (ac 0) ah))))) bq)
 (ak (sIf (cE (tV (e2 ltI (ac 1) (eN br (ae (ac 0) ah)))) (tV (e2 geI (eN gY (ae (ac 2) ah)) (e2 kT (eC (.int 10)) (eC (.int 18)))))) (aC (ba (ae (eN gY (ae (ac 2) ah)) (ae (eC (.int 0)) (ae (eC (.int 0)) ah))))) bq)
 (aC (ba (ae (eC (.int 0)) (ae (e2 aY (e2 be (ac 2) (eC (.int 999999937))) (e2 bE (eC (.int 70001)) (ac 1))) (ae (eC (.int 0)) ah))))))))
def bV:List D→Option (D × En):=fnF 1 [0,0] dB
def il:MS:=(ak (sIf (tV (e2 gtI (cC 0 (eC (.int 0))) (eC (.int 0)))) (ak (aq 2 (e2 be (cC 0 (eC (.int 0))) (ac 1)))
 (ak (dC 0 (eC (.int 0)) (e2 cg (cC 0 (eC (.int 0))) (ac 1)))
 (aC (ac 2)))) bq)
 (ak (dC 0 (eC (.int 2)) (e2 aY (cC 0 (eC (.int 2))) (eC (.int 1))))
 (ak (aq 3 (e2 be (e2 aY (e2 aY (e2 bE (cC 0 (eC (.int 1))) (eC (.int 48271))) (e2 bE (cC 0 (eC (.int 2))) (eC (.int 39373)))) (eC (.int 11))) (eC (.int 2147483647))))
 (ak (aq 3 (e2 be (e2 bE (ac 3) (e2 aY (e2 be (ac 3) (eC (.int 65521))) (cC 0 (eC (.int 2))))) (eC (.int 2147483629))))
 (aC (e2 be (e2 cg (ac 3) (eC (.int 64))) (ac 1)))))))
def F_law_draw:List D→Option (D × En):=fnF 2 [1,0] il
def dE (a b c:Int):D:=.list [.int a,.int b,.int c]
def IsPen (t:D):Prop:=∃ a b c,t=dE a b c
theorem draw_ok {p:D} {m:Int} (hp:IsPen p) (h3:0 < m) (h4:m < 1073741824):∃ r p',F_law_draw [p,.int m]=some (.int r,[some p',none])∧0≤r∧r < m∧IsPen p':=by
 obtain ⟨a,b,c,rfl⟩:=hp
 have cd:∀ z,eQ z m:=fun z=>⟨h3,h4⟩
 have md:∀ z,be (.int z) (.int m)=some (.int (z % m)):=fun z=>if_pos h3
 have dv:∀ z,cg (.int z) (.int m)=some (.int (z / m)):=fun z=>if_pos (cd z)
 by_cases ha:0 < a
 ·refine ⟨a % m,dE (a / m) b c,?_,Int.emod_nonneg _ (by omega),Int.emod_lt_of_pos _ h3,_,_,_,rfl⟩
  refine bT (b:=il) (en:=[some (dE (a / m) b c),some (.int m),some (.int (a % m)),none]) (gt (dJ (b:=decide ((0:Int) < a)) rfl (decide_eq_true ha) (az (en1:=[some (dE a b c),some (.int m),some (.int (a % m)),none]) (bH (aV (t1:=.int a) (t2:=.int m) rfl rfl (md a)) rfl) (az (en1:=[some (dE (a / m) b c),some (.int m),some (.int (a % m)),none]) ?_ rfl))))
  unfold dC
  rw [aV (t1:=.int a) (t2:=.int m) (f1:=cC 0 (eC (.int 0))) (f2:=ac 1) (g:=cg) (en:=[some (dE a b c),some (.int m),some (.int (a % m)),none]) (en1:=[some (dE a b c),some (.int m),some (.int (a % m)),none]) (en2:=[some (dE a b c),some (.int m),some (.int (a % m)),none]) rfl rfl (dv a)]
  rfl
 ·generalize g1:(b * 48271+(c+1) * 39373+11) % 2147483647=x
  have x0:0≤x:=by omega
  have x1:x < 2147483647:=by omega
  generalize g2:x * (x % 65521+(c+1)) % 2147483629=y
  refine ⟨y / 64 % m,dE a b (c+1),?_,Int.emod_nonneg _ (by omega),Int.emod_lt_of_pos _ h3,_,_,_,rfl⟩
  have c1:bE (.int b) (.int 48271)=some (.int (b * 48271)):=if_pos (.inr (by decide))
  have c2:bE (.int (c+1)) (.int 39373)=some (.int ((c+1) * 39373)):=if_pos (.inr (by decide))
  have c3:bE (.int x) (.int (x % 65521+(c+1)))=some (.int (x * (x % 65521+(c+1)))):=if_pos (.inl (by constructor <;> omega))
  have c80:eQ y 64:=⟨by decide,by decide⟩
  have c8:cg (.int y) (.int 64)=some (.int (y / 64)):=by
   show (if eQ y 64 then some (PyData.int (y / 64)) else none)=_
   rw [if_pos c80]
  refine bT (b:=il) (en:=[some (dE a b (c+1)),some (.int m),none,some (.int y)]) (az (en1:=[some (dE a b c),some (.int m),none,none]) (gu (b:=decide ((0:Int) < a)) rfl (decide_eq_false ha) rfl)
   (az (en1:=[some (dE a b (c+1)),some (.int m),none,none]) rfl
   (az (en1:=[some (dE a b (c+1)),some (.int m),none,some (.int x)]) (bH (aV (t2:=.int 2147483647) (aV (aV (aV (t1:=.int b) (t2:=.int 48271) rfl rfl c1) (aV (t1:=.int (c+1)) (t2:=.int 39373) rfl rfl c2) rfl) rfl rfl) rfl (by rw [← g1]; rfl)) rfl)
   (az (en1:=[some (dE a b (c+1)),some (.int m),none,some (.int y)]) (bH (aV (t2:=.int 2147483629) (aV (t1:=.int x) (t2:=.int (x % 65521+(c+1))) rfl (aV (t1:=.int (x % 65521)) (t2:=.int (c+1)) rfl rfl rfl) c3) rfl (by rw [← g2]; rfl)) rfl)
   (gW (aV (t2:=.int m) (aV (t1:=.int y) (t2:=.int 64) rfl rfl c8) rfl (md _)))))))
end Pen3
end L2
namespace Mch
open PySem L2 Pen2
def bN:MS:=(aC (eLC true (bt (e2 ixA (ac 0) (eC (.int 0)))) (gN 0) cY (eIf (tV (ac 0)) (eC (.int 1)) (eC (.int 0))) [none]))
def bd:List D→Option (D × En):=fnF 0 [0] bN
def bj:MS:=(aC (eLC true (bt (e2 ixA (ac 0) (eC (.int 1)))) (gN 0) cY (eN fK (ae (eLC true (bt (ac 0)) (gN 0) (tV (e2 cV (ac 0) (eC .none))) (e2 ixA (ac 1) (ac 0)) [none,some 1]) ah)) [none,some 1]))
def aS:List D→Option (D × En):=fnF 0 [0,0] bj
noncomputable def iU:MS:=(ak (aq 2 (ba (ae (ar bd (ae (ac 0) ah)) ah)))
 (ak (bG (tV (e2 leI (eN br (ae (ac 2) ah)) (ac 1))) (bY (bZ 2 (ar aS (ae (ac 0) (ae (cC 2 (e1 kX (eC (.int 1)))) ah))))))
 (aC (ac 2))))
noncomputable def eG:List D→Option (D × En):=fnF 1 [0,0] iU
def eo:MS:=(aC (e2 ixA (ba (ae (eC (.int 2)) (ae (eC (.int 1)) (ae (eC (.int 3)) (ae (eC (.int 2)) (ae (eC (.int 4)) (ae (eC (.int 3)) (ae (eC (.int 2)) (ae (e2 aY (eC (.int 5)) (ar aw (aL 0 (ae (eC (.int 8)) ah)))) ah))))))))) (ar aw (aL 0 (ae (eC (.int 8)) ah)))))
def cx:List D→Option (D × En):=fnF 0 [1] eo
def cT:MS:=(ak (aq 4 (ar aw (aL 0 (ae (e2 aY (ac 2) (eC (.int 1))) ah))))
 (ak (sIf (bOr (tV (e2 eqD (ac 4) (ac 2))) (cE (tV (e2 eqD (ac 3) (eC (.int 1)))) (tV (e2 leI (ac 4) (ac 1))))) (aC (eC .none)) bq)
 (aC (ac 4))))
def bi:List D→Option (D × En):=fnF 1 [1,0,0,0] cT
def cu:MS:=(ak (aq 3 (e2 aY (eC (.int 1)) (ar aw (aL 0 (ae (ac 2) ah)))))
 (ak (aq 4 (ar aw (aL 0 (ae (eC (.int 4)) ah))))
 (ak (aq 5 (e2 aY (eC (.int 1)) (ar aw (aL 0 (ae (ac 3) ah)))))
 (ak (aq 6 (ba ah))
 (ak (aq 7 (ba ah))
 (ak (dk (bu (ae (ac 3) ah)) (gN 8) (ak (bY (bZ 6 (e2 eqD (ar aw (aL 0 (ae (eC (.int 3)) ah))) (eC (.int 0)))))
 (ak (aq 9 (eLC false (bu (ae (ac 1) ah)) (gN 0) cY (ar bi (aL 1 (ae (ac 4) (ae (ac 2) (ae (ac 3) ah))))) [none,some 0,some 3,some 4,some 8]))
 (ak (sIf (cE (tV (e2 eqD (ac 4) (eC (.int 2)))) (tV (e2 ltI (ac 8) (ac 5)))) (ak (dC 6 (ac 8) (eC (.bool false)))
 (aq 9 (eLC true (bt (ac 9)) (gN 0) cY (e2 ixA (ba (ae (ac 0) (ae (eC .none) ah))) (eN gK (ae (eOr (e2 isN (ac 0) (eC .none)) (e2 geI (ac 0) (ac 1))) ah))) [none,some 5]))) bq)
 (bY (bZ 7 (ac 9)))))))
 (aC (fT (ae (ac 6) (ae (ac 7) ah))))))))))
def bP:List D→Option (D × En):=fnF 7 [1,0,0] cu
def goD:Option Nat→D
 | none=>.none
 | some j=>.int j
def aQ (r:List (Option Nat)):D:=.list (r.map goD)
def aB (es:List Bool) (gs:List (List (Option Nat))):D:=.tuple [.list (es.map .bool),.list (gs.map aQ)]
def dP (S W:Nat) (r:List (Option Nat)):Prop:=r.length=W∧∀ o∈r,∀ j,o=some j→j < S
theorem su {ns:List Int} {k l:Int} (h0:0≤k) (h1:k≤1000) (h2:0≤l):∃ (s:Nat) (k' l':Int),cx [penD ns k l]=some (.int s,[some (penD ns k' l')])∧1≤s∧s≤12∧k≤k'∧k'≤k+2∧0≤l':=by
 obtain ⟨r1,k1,l1,e1,a1,a2,a3,a4,a5⟩:=dW (ns:=ns) (k:=k) (l:=l) (m:=8) (i:=0) (en:=[some (penD ns k l)]) (fa:=aL 0 (ae (eC (.int 8)) ah)) rfl rfl h0 (by omega) h2 (by decide) (by decide)
 obtain ⟨r2,k2,l2,e2',b1,b2,b3,b4,b5⟩:=dW (ns:=ns) (k:=k1) (l:=l1) (m:=8) (i:=0) (en:=[some (penD ns k1 l1)]) (fa:=aL 0 (ae (eC (.int 8)) ah)) rfl rfl (by omega) (by omega) a5 (by decide) (by decide)
 have hx:∃ s:Nat,ixA (.list [.int 2,.int 1,.int 3,.int 2,.int 4,.int 3,.int 2,.int (5+r1)]) (.int r2)=some (.int s)∧1≤s∧s≤12:=by
  have:r2=0∨r2=1∨r2=2∨r2=3∨r2=4∨r2=5∨r2=6∨r2=7:=by omega
  rcases this with rfl | rfl | rfl | rfl | rfl | rfl | rfl | rfl
  ·exact ⟨2,rfl,by decide,by decide⟩
  ·exact ⟨1,rfl,by decide,by decide⟩
  ·exact ⟨3,rfl,by decide,by decide⟩
  ·exact ⟨2,rfl,by decide,by decide⟩
  ·exact ⟨4,rfl,by decide,by decide⟩
  ·exact ⟨3,rfl,by decide,by decide⟩
  ·exact ⟨2,rfl,by decide,by decide⟩
  ·refine ⟨(5+r1).toNat,?_,by omega,by omega⟩
   rw [show (((5+r1).toNat:Nat):Int)=5+r1 by omega]
   rfl
 obtain ⟨s,ex,s1,s2⟩:=hx
 refine ⟨s,k2,l2,?_,s1,s2,by omega,by omega,b5⟩
 refine bT (en:=[some (penD ns k2 l2)]) (gW (aV (en1:=[some (penD ns k1 l1)]) (ko (db rfl (db rfl (db rfl (db rfl (db rfl (db rfl (db rfl (db (aV rfl e1 rfl) rfl)))))))) rfl ?_) e2' ex))
 exact Nat.le_trans (by show 8≤100; decide) aG
theorem AQ {ns:List Int} {k l way:Int} {i S:Nat} (hS:S≤60) (h0:0≤k) (h1:k≤10000) (h2:0≤l):∃ (o:Option Nat) (k' l':Int),bi [penD ns k l,.int i,.int S,.int way]=some (goD o,[some (penD ns k' l'),none,none,none])∧(∀ j,o=some j→j < S)∧k≤k'∧k'≤k+1∧0≤l':=by
 obtain ⟨r1,k1,l1,e1,a1,a2,a3,a4,a5⟩:=dW (ns:=ns) (k:=k) (l:=l) (m:=S+1) (i:=0) (en:=[some (penD ns k l),some (.int i),some (.int S),some (.int way),none]) (fa:=aL 0 (ae (e2 aY (ac 2) (eC (.int 1))) ah)) rfl rfl h0 (by omega) h2 (by omega) (by omega)
 have c1:(tV (e2 eqD (ac 4) (ac 2))) [some (penD ns k1 l1),some (.int i),some (.int S),some (.int way),some (.int r1)]=some (r1 == (S:Int),[some (penD ns k1 l1),some (.int i),some (.int S),some (.int way),some (.int r1)]):=rfl
 have c2:(tV (e2 eqD (ac 3) (eC (.int 1)))) [some (penD ns k1 l1),some (.int i),some (.int S),some (.int way),some (.int r1)]=some (way == 1,[some (penD ns k1 l1),some (.int i),some (.int S),some (.int way),some (.int r1)]):=rfl
 have c3:(tV (e2 leI (ac 4) (ac 1))) [some (penD ns k1 l1),some (.int i),some (.int S),some (.int way),some (.int r1)]=some (decide (r1≤(i:Int)),[some (penD ns k1 l1),some (.int i),some (.int S),some (.int way),some (.int r1)]):=rfl
 obtain ⟨b,cb,hb⟩:∃ b,(bOr (tV (e2 eqD (ac 4) (ac 2))) (cE (tV (e2 eqD (ac 3) (eC (.int 1)))) (tV (e2 leI (ac 4) (ac 1))))) [some (penD ns k1 l1),some (.int i),some (.int S),some (.int way),some (.int r1)]=some (b,[some (penD ns k1 l1),some (.int i),some (.int S),some (.int way),some (.int r1)])∧(b=false→r1≠S):=by
  cases q1:(r1 == (S:Int)) with
  | true=>exact ⟨true,ny c1 q1,fun z=>by cases z⟩
  | false =>
   have n1:r1≠S:=by simpa using q1
   cases q2:(way == 1) with
   | true=>exact ⟨_,km c1 q1 (oU c2 q2 c3),fun _=>n1⟩
   | false=>exact ⟨_,km c1 q1 (oV c2 q2),fun _=>n1⟩
 cases b with
 | true=>exact ⟨none,k1,l1,bT (b:=cT) (t:=.none) (en:=[some (penD ns k1 l1),some (.int i),some (.int S),some (.int way),some (.int r1)]) (az (en1:=[some (penD ns k1 l1),some (.int i),some (.int S),some (.int way),some (.int r1)]) (bH e1 rfl) (gt (dJ cb rfl rfl))),fun _ (z:none=some _)=>(by cases z),a3,a4,a5⟩
 | false =>
  have:=hb rfl
  refine ⟨some r1.toNat,k1,l1,?_,fun j hj=>by cases hj; omega,a3,a4,a5⟩
  have e:goD (some r1.toNat)=.int r1:=by show PyData.int ((r1.toNat:Nat):Int)=_; rw [Int.toNat_of_nonneg a1]
  rw [e]
  exact bT (b:=cT) (en:=[some (penD ns k1 l1),some (.int i),some (.int S),some (.int way),some (.int r1)]) (az (en1:=[some (penD ns k1 l1),some (.int i),some (.int S),some (.int way),some (.int r1)]) (bH e1 rfl) (az (gu cb rfl rfl) rfl))
theorem DI (n:Nat) (hn:n < 1000000):-(2 ^ 62)≤(n:Int)∧(n:Int) < 2 ^ 62:=by
 have:(n:Int) < 1000000:=by omega
 constructor
 ·exact Int.le_trans (by decide +kernel) (Int.natCast_nonneg n)
 ·exact Int.lt_of_lt_of_le this (by decide +kernel)
theorem Fo {j:Int} (p1:-(2 ^ 62)≤j∧j < 2 ^ 62) {fa:MA} {en en1:En} (h:fa en=some ([.inl (.int j)],en1)):bu fa en=some ((List.range j.toNat).map fun k=>.int (0+(k:Nat)),en1):=by
 unfold bu
 rw [h]
 simp only [Option.bind_some]
 exact if_pos p1
theorem oS {n:Nat} {fa:MA} {en en1:En} (h:fa en=some ([.inl (.int n)],en1)) (hn:n < 1000000):bu fa en=some ((List.range n).map fun k=>.int (0+(k:Nat)),en1):=by
 have e:=Fo (DI n hn) h
 rw [Int.toNat_natCast] at e
 exact e
def mEn (mo:Int) (ns:List Int) (k l:Int) (W S:Nat) (way fence:Int) (es:List Bool) (gs:List (List (Option Nat))) (x y:Option D):En :=
 [some (penD ns k l),some (.int W),some (.int mo),some (.int S),some (.int way),some (.int fence),some (.list (es.map .bool)),some (.list (gs.map aQ)),x,y]
def jO (fence:Int):Option Nat→Option Nat
 | some j=>if fence≤(j:Int) then none else some j
 | none=>none
def t4 (fence:Int):D→D
 | .int j=>if fence≤j then .none else .int j
 | _=>.none
theorem Fw {fence:Int} (o:Option Nat):t4 fence (goD o)=goD (jO fence o):=by
 cases o with
 | none=>rfl
 | some j =>
  show (if fence≤(j:Int) then PyData.none else .int j)=goD (if fence≤(j:Int) then none else some j)
  split <;> rfl
theorem j7 {mo:Int} {ns:List Int} {k l way fence:Int} {W S i:Nat} {es:List Bool} {gs:List (List (Option Nat))} {y:Option D} (hW:W≤12) (hS:S≤60) (h0:0≤k) (h1:k≤9000) (h2:0≤l) :
  ∃ (r:List (Option Nat)) (k' l':Int),eLC false (bu (ae (ac 1) ah)) (gN 0) cY (ar bi (aL 1 (ae (ac 4) (ae (ac 2) (ae (ac 3) ah))))) [none,some 0,some 3,some 4,some 8] (mEn mo ns k l W S way fence es gs (some (.int i)) y)
   = some (aQ r,mEn mo ns k' l' W S way fence es gs (some (.int i)) y)∧dP S W r∧k≤k'∧k'≤k+12∧0≤l':=by
 have hl:((List.range W).map fun k=>PyData.int (0+(k:Nat))).length=W:=by rw [List.length_map,List.length_range]
 obtain ⟨us,ex,e1,⟨o,k',l',rfl,q1,q2,q3⟩,a⟩:=oH (N:=W) (g:=gN 0) (c:=cY) (f:=ar bi (aL 1 (ae (ac 4) (ae (ac 2) (ae (ac 3) ah)))))
  (fun n en=>∃ o k' l',en=[o,some (penD ns k' l'),some (.int S),some (.int way),some (.int i)]∧k≤k'∧k'≤k+n∧0≤l') (fun _ q=>∃ o,q=goD o∧∀ j,o=some j→j < S)
  (fun n t en hn ⟨o,k',l',he,q1,q2,q3⟩=>by
   subst he
   obtain ⟨o',k2,l2,e,p1,p2,p3,p4⟩:=AQ (ns:=ns) (k:=k') (l:=l') (way:=way) (i:=i) (S:=S) hS (by omega) (by omega) q3
   exact ⟨[some t,some (penD ns k' l'),some (.int S),some (.int way),some (.int i)],[some t,some (penD ns k' l'),some (.int S),some (.int way),some (.int i)],goD o',[some t,some (penD ns k2 l2),some (.int S),some (.int way),some (.int i)],rfl,rfl,cL (as:=[.inr 1,.inl (.int i),.inl (.int S),.inl (.int way)]) rfl rfl e rfl,⟨some t,k2,l2,rfl,by omega,by omega,p4⟩,⟨o',rfl,p1⟩⟩)
  ((List.range W).map fun k=>.int (0+(k:Nat))) [] 0 (bU [none,some 0,some 3,some 4,some 8] (mEn mo ns k l W S way fence es gs (some (.int i)) y)) ⟨none,k,l,rfl,Int.le_refl _,by omega,h2⟩ (by rw [hl]; omega) (by rw [hl]; show 0+W≤_; exact Nat.le_trans (by omega) aG)
 obtain ⟨os,rfl,o1,o2⟩:=a.ex
 rw [hl] at o1 q2
 refine ⟨os,k',l',kq (oS (n:=W) rfl (by omega)) e1 rfl,⟨o1,o2⟩,q1,by omega,q3⟩
theorem AL {n:Nat} {j:Int} (h0:0≤j) (h1:j < n):ixN n j=some j.toNat:=by
 unfold ixN
 rw [if_pos h0,if_pos h1]
theorem kZ {n i:Nat} (h:i < n):ixN n (i:Int)=some i:=by
 have e:=AL (n:=n) (j:=(i:Int)) (Int.natCast_nonneg i) (Int.ofNat_lt.mpr h)
 rw [Int.toNat_natCast] at e
 exact e
theorem By {mo:Int} {ns:List Int} {k l way fence:Int} {W S i:Nat} {es:List Bool} {gs:List (List (Option Nat))} {r:List (Option Nat)} (hr:dP S W r) (hW:W≤12) :
  eLC true (bt (ac 9)) (gN 0) cY (e2 ixA (ba (ae (ac 0) (ae (eC .none) ah))) (eN gK (ae (eOr (e2 isN (ac 0) (eC .none)) (e2 geI (ac 0) (ac 1))) ah))) [none,some 5] (mEn mo ns k l W S way fence es gs (some (.int i)) (some (aQ r)))
   = some (aQ (r.map (jO fence)),mEn mo ns k l W S way fence es gs (some (.int i)) (some (aQ r))):=by
 obtain ⟨o',e⟩:=i4 (F:=t4 fence) (rest:=[some (.int fence)]) (f:=e2 ixA (ba (ae (ac 0) (ae (eC .none) ah))) (eN gK (ae (eOr (e2 isN (ac 0) (eC .none)) (e2 geI (ac 0) (ac 1))) ah))) (r.map goD) [] none (fun t ht=>by
  obtain ⟨o,ho,rfl⟩:=List.mem_map.mp ht
  have l2:ba (ae (ac 0) (ae (eC .none) ah)) [some (goD o),some (.int fence)]=some (.list [goD o,.none],[some (goD o),some (.int fence)]):=ko rfl rfl (Nat.le_trans (by show 2≤100; decide) aG)
  cases o with
  | none=>exact aV l2 (t2:=.int 1) rfl rfl
  | some j =>
   by_cases hf:fence≤(j:Int)
   ·refine aV l2 (t2:=.int 1) ?_ (show _=some (if fence≤(j:Int) then PyData.none else .int j) by rw [if_pos hf]; rfl)
    show some (PyData.int (if decide (fence≤(j:Int)) then 1 else 0),_)=_
    rw [decide_eq_true hf]
    rfl
   ·refine aV l2 (t2:=.int 0) ?_ (show _=some (if fence≤(j:Int) then PyData.none else .int j) by rw [if_neg hf]; rfl)
    show some (PyData.int (if decide (fence≤(j:Int)) then 1 else 0),_)=_
    rw [decide_eq_false hf]
    rfl) (by rw [List.length_map,hr.1]; exact Nat.le_trans (by show 0+W≤100; omega) aG)
 have em:(r.map goD).map (t4 fence)=(r.map (jO fence)).map goD:=by
  rw [List.map_map,List.map_map]
  exact List.map_congr_left fun o _=>Fw o
 rw [em] at e
 exact kq (en1:=mEn mo ns k l W S way fence es gs (some (.int i)) (some (aQ r))) rfl e rfl
theorem Fv {S W:Nat} {fence:Int} {r:List (Option Nat)} (hr:dP S W r):dP S W (r.map (jO fence)):=by
 refine ⟨by rw [List.length_map,hr.1],fun o ho j hj=>?_⟩
 obtain ⟨o',h1,h2⟩:=List.mem_map.mp ho
 cases o' with
 | none=>rw [hj] at h2; cases h2
 | some j' =>
  rw [hj] at h2
  have h3:(if fence≤(j':Int) then none else some j')=some j:=h2
  split at h3
  ·cases h3
  ·cases h3
   exact hr.2 _ h1 _ rfl
def zI:MS:=(ak (bY (bZ 6 (e2 eqD (ar aw (aL 0 (ae (eC (.int 3)) ah))) (eC (.int 0)))))
 (ak (aq 9 (eLC false (bu (ae (ac 1) ah)) (gN 0) cY (ar bi (aL 1 (ae (ac 4) (ae (ac 2) (ae (ac 3) ah))))) [none,some 0,some 3,some 4,some 8]))
 (ak (sIf (cE (tV (e2 eqD (ac 4) (eC (.int 2)))) (tV (e2 ltI (ac 8) (ac 5)))) (ak (dC 6 (ac 8) (eC (.bool false)))
 (aq 9 (eLC true (bt (ac 9)) (gN 0) cY (e2 ixA (ba (ae (ac 0) (ae (eC .none) ah))) (eN gK (ae (eOr (e2 isN (ac 0) (eC .none)) (e2 geI (ac 0) (ac 1))) ah))) [none,some 5]))) bq)
 (bY (bZ 7 (ac 9))))))
theorem BC {mo:Int} {ns:List Int} {k l way fence:Int} {W S i:Nat} {es:List Bool} {gs:List (List (Option Nat))} {y:Option D} (hW:W≤12) (hS:S≤60) (hi:i < 60) (h0:0≤k) (h1:k≤8000) (h2:0≤l) (he:es.length=i) (hg:gs.length=i) :
  ∃ (b:Bool) (r:List (Option Nat)) (k' l':Int) (y':Option D),zI (mEn mo ns k l W S way fence es gs (some (.int i)) y)=some (.nx (mEn mo ns k' l' W S way fence (es++[b]) (gs++[r]) (some (.int i)) y'))∧dP S W r∧k≤k'∧k'≤k+13∧0≤l':=by
 obtain ⟨r1,k1,l1,e1,a1,a2,a3,a4,a5⟩:=dW (ns:=ns) (k:=k) (l:=l) (m:=3) (i:=0) (en:=mEn mo ns k l W S way fence es gs (some (.int i)) y) (fa:=aL 0 (ae (eC (.int 3)) ah)) rfl rfl h0 (by omega) h2 (by decide) (by decide)
 have lm:(es.map PyData.bool).length < sizeLine:=by rw [List.length_map,he]; exact Nat.lt_of_lt_of_le (by omega) aG
 have s1:bY (bZ 6 (e2 eqD (ar aw (aL 0 (ae (eC (.int 3)) ah))) (eC (.int 0)))) (mEn mo ns k l W S way fence es gs (some (.int i)) y)=some (.nx (mEn mo ns k1 l1 W S way fence (es++[r1 == 0]) gs (some (.int i)) y)):=by
  refine nz (nA (us:=es.map .bool) (en1:=mEn mo ns k1 l1 W S way fence es gs (some (.int i)) y) rfl (aV (t2:=.int 0) e1 rfl rfl) rfl lm ?_)
  unfold mEn
  rw [List.map_append]
  rfl
 obtain ⟨r,k2,l2,e2',hr,b3,b4,b5⟩:=j7 (mo:=mo) (ns:=ns) (k:=k1) (l:=l1) (way:=way) (fence:=fence) (W:=W) (S:=S) (i:=i) (es:=es++[r1 == 0]) (gs:=gs) (y:=y) hW hS (by omega) (by omega) a5
 have s2:aq 9 (eLC false (bu (ae (ac 1) ah)) (gN 0) cY (ar bi (aL 1 (ae (ac 4) (ae (ac 2) (ae (ac 3) ah))))) [none,some 0,some 3,some 4,some 8]) (mEn mo ns k1 l1 W S way fence (es++[r1 == 0]) gs (some (.int i)) y)=some (.nx (mEn mo ns k2 l2 W S way fence (es++[r1 == 0]) gs (some (.int i)) (some (aQ r)))):=bH e2' rfl
 have s4:∀ (es':List Bool) (r':List (Option Nat)),bY (bZ 7 (ac 9)) (mEn mo ns k2 l2 W S way fence es' gs (some (.int i)) (some (aQ r')))=some (.nx (mEn mo ns k2 l2 W S way fence es' (gs++[r']) (some (.int i)) (some (aQ r')))):=by
  intro es' r'
  refine nz (nA (us:=gs.map aQ) (en1:=mEn mo ns k2 l2 W S way fence es' gs (some (.int i)) (some (aQ r'))) rfl rfl rfl (by rw [List.length_map,hg]; exact Nat.lt_of_lt_of_le (by omega) aG) ?_)
  unfold mEn
  rw [List.map_append]
  rfl
 have c1:tV (e2 eqD (ac 4) (eC (.int 2))) (mEn mo ns k2 l2 W S way fence (es++[r1 == 0]) gs (some (.int i)) (some (aQ r)))=some (way == 2,mEn mo ns k2 l2 W S way fence (es++[r1 == 0]) gs (some (.int i)) (some (aQ r))):=rfl
 have c2:tV (e2 ltI (ac 8) (ac 5)) (mEn mo ns k2 l2 W S way fence (es++[r1 == 0]) gs (some (.int i)) (some (aQ r)))=some (decide ((i:Int) < fence),mEn mo ns k2 l2 W S way fence (es++[r1 == 0]) gs (some (.int i)) (some (aQ r))):=rfl
 obtain ⟨b,cb⟩:∃ b,cE (tV (e2 eqD (ac 4) (eC (.int 2)))) (tV (e2 ltI (ac 8) (ac 5))) (mEn mo ns k2 l2 W S way fence (es++[r1 == 0]) gs (some (.int i)) (some (aQ r)))=some (b,mEn mo ns k2 l2 W S way fence (es++[r1 == 0]) gs (some (.int i)) (some (aQ r))):=by
  cases q1:(way == 2) with
  | true=>exact ⟨_,oU c1 q1 c2⟩
  | false=>exact ⟨_,oV c1 q1⟩
 cases b with
 | false=>exact ⟨r1 == 0,r,k2,l2,_,az s1 (az s2 (az (gu cb rfl rfl) (s4 _ _))),hr,by omega,by omega,b5⟩
 | true =>
  refine ⟨false,r.map (jO fence),k2,l2,some (aQ (r.map (jO fence))),az s1 (az s2 (az (en1:=mEn mo ns k2 l2 W S way fence (es++[false]) gs (some (.int i)) (some (aQ (r.map (jO fence))))) (dJ cb rfl (az (en1:=mEn mo ns k2 l2 W S way fence (es++[false]) gs (some (.int i)) (some (aQ r))) ?_ (bH (By hr hW) rfl))) (s4 _ _))),Fv hr,by omega,by omega,b5⟩
  have ix:ixN ((es++[r1 == 0]).map PyData.bool).length (i:Int)=some i:=kZ (by rw [List.length_map,List.length_append,he]; exact Nat.lt_succ_self _)
  have st:((es++[r1 == 0]).map PyData.bool).set i (.bool false)=(es++[false]).map PyData.bool:=by
   have e:(es++[r1 == 0]).set i false=es++[false]:=by
    rw [List.set_append_right _ _ (by omega),he,Nat.sub_self]
    rfl
   rw [← e,List.map_set]
  show ((ixN ((es++[r1 == 0]).map PyData.bool).length (i:Int)).map fun k=>Fl.nx ((mEn mo ns k2 l2 W S way fence (es++[r1 == 0]) gs (some (.int i)) (some (aQ r))).set 6 (some (.list (((es++[r1 == 0]).map PyData.bool).set k (.bool false))))))=_
  rw [ix]
  show some (Fl.nx ((mEn mo ns k2 l2 W S way fence (es++[r1 == 0]) gs (some (.int i)) (some (aQ r))).set 6 (some (.list (((es++[r1 == 0]).map PyData.bool).set i (.bool false))))))=_
  rw [st]
  rfl
theorem AI {mo:Int} {ns:List Int} {k l:Int} {W:Nat} (mo1:1≤mo) (mo2:mo≤40) (hW:W≤12) (h0:0≤k) (h1:k≤1000) (h2:0≤l) :
  ∃ (es:List Bool) (gs:List (List (Option Nat))) (k' l':Int),bP [penD ns k l,.int W,.int mo]=some (aB es gs,[some (penD ns k' l'),none,none])∧1≤es.length∧(es.length:Int)≤mo∧gs.length=es.length∧(∀ r∈gs,dP es.length W r)∧k≤k'∧k'≤k+600∧0≤l':=by
 obtain ⟨r1,k1,l1,e1,a1,a2,a3,a4,a5⟩:=dW (ns:=ns) (k:=k) (l:=l) (m:=mo) (i:=0) (en:=[some (penD ns k l),some (.int W),some (.int mo),none,none,none,none,none,none,none]) (fa:=aL 0 (ae (ac 2) ah)) rfl rfl h0 (by omega) h2 (by omega) (by omega)
 obtain ⟨S,hS⟩:∃ S:Nat,(S:Int)=1+r1:=⟨(1+r1).toNat,by omega⟩
 obtain ⟨way,k2,l2,e2',b1,b2,b3,b4,b5⟩:=dW (ns:=ns) (k:=k1) (l:=l1) (m:=4) (i:=0) (en:=[some (penD ns k1 l1),some (.int W),some (.int mo),some (.int S),none,none,none,none,none,none]) (fa:=aL 0 (ae (eC (.int 4)) ah)) rfl rfl (by omega) (by omega) a5 (by decide) (by decide)
 obtain ⟨r3,k3,l3,e3,c1,c2,c3,c4,c5⟩:=dW (ns:=ns) (k:=k2) (l:=l2) (m:=S) (i:=0) (en:=[some (penD ns k2 l2),some (.int W),some (.int mo),some (.int S),some (.int way),none,none,none,none,none]) (fa:=aL 0 (ae (ac 3) ah)) rfl rfl (by omega) (by omega) b5 (by omega) (by omega)
 have hl:((List.range S).map fun k=>PyData.int (0+(k:Nat))).length=S:=by rw [List.length_map,List.length_range]
 obtain ⟨en',e4,es,gs,k',l',x,y,rfl,d1,d2,d3,d4,d5,d6⟩:=tJ (g:=gN 8) (b:=zI) (ts:=(List.range S).map fun k=>.int (0+(k:Nat)))
  (fun i en=>∃ es gs k' l' x y,en=mEn mo ns k' l' W S way (1+r3) es gs x y∧es.length=i∧gs.length=i∧(∀ r∈gs,dP S W r)∧k3≤k'∧k'≤k3+13 * i∧0≤l')
  (fun i t en ht ⟨es,gs,k',l',x,y,hen,d1,d2,d3,d4,d5,d6⟩=>by
   subst hen
   have hi:i < S:=by have:=(List.getElem?_eq_some_iff.mp ht).1; rw [hl] at this; exact this
   have et:t=.int i:=by
    rw [List.getElem?_map,List.getElem?_range hi] at ht
    injection ht with ht
    rw [← ht]
    show PyData.int (0+(i:Int))=_
    rw [Int.zero_add]
   subst et
   obtain ⟨b,r,k4,l4,y',f1,f2,f3,f4,f5⟩:=BC (mo:=mo) (ns:=ns) (k:=k') (l:=l') (way:=way) (fence:=1+r3) (W:=W) (S:=S) (i:=i) (es:=es) (gs:=gs) (y:=y) hW (by omega) (by omega) (by omega) (by omega) d6 d1 d2
   refine ⟨mEn mo ns k' l' W S way (1+r3) es gs (some (.int i)) y,_,rfl,.inl f1,es++[b],gs++[r],k4,l4,some (.int i),y',rfl,by rw [List.length_append,d1]; rfl,by rw [List.length_append,d2]; rfl,fun q hq=>?_,by omega,by omega,f5⟩
   rcases List.mem_append.mp hq with hq | hq
   ·exact d3 q hq
   ·rw [List.mem_singleton.mp hq]
    exact f2)
  (en:=mEn mo ns k3 l3 W S way (1+r3) [] [] none none) ⟨[],[],k3,l3,none,none,rfl,rfl,rfl,fun _ z=>(by cases z),Int.le_refl _,by omega,c5⟩
 rw [hl] at d1 d2 d5
 refine ⟨es,gs,k',l',?_,by omega,by omega,by omega,by rw [d1]; exact d3,by omega,by omega,d6⟩
 have l0:∀ {en:En},ba ah en=some (.list [],en):=fun {en}=>ko rfl rfl (Nat.zero_le _)
 refine bT (b:=cu) (en:=mEn mo ns k' l' W S way (1+r3) es gs x y)
  (az (en1:=[some (penD ns k1 l1),some (.int W),some (.int mo),some (.int S),none,none,none,none,none,none]) (bH (aV rfl e1 (show _=some (PyData.int S) by rw [hS]; rfl)) rfl)
  (az (en1:=[some (penD ns k2 l2),some (.int W),some (.int mo),some (.int S),some (.int way),none,none,none,none,none]) (bH e2' rfl)
  (az (en1:=[some (penD ns k3 l3),some (.int W),some (.int mo),some (.int S),some (.int way),some (.int (1+r3)),none,none,none,none]) (bH (aV rfl e3 rfl) rfl)
  (az (en1:=[some (penD ns k3 l3),some (.int W),some (.int mo),some (.int S),some (.int way),some (.int (1+r3)),some (.list []),none,none,none]) (bH l0 rfl)
  (az (en1:=[some (penD ns k3 l3),some (.int W),some (.int mo),some (.int S),some (.int way),some (.int (1+r3)),some (.list []),some (.list []),none,none]) (bH l0 rfl)
  (az (Fp (oS (n:=S) rfl (by omega)) e4) (gW (Fm rfl rfl (Nat.le_trans (by show 2≤100; decide) aG)))))))))
def aK (v:List Int):D:=.list (v.map .int)
def sD (v:List Int):D→Option Int
 | .int j=>some (v.getD j.toNat 0)
 | _=>none
def rsD (v:List Int):D→Int
 | .list xs=>(xs.filterMap (sD v)).sum
 | _=>0
def nxt (gs:List (List (Option Nat))) (v:List Int):List Int:=gs.map fun r=>rsD v (aQ r)
def base (es:List Bool):List Int:=es.map fun b=>if b then 1 else 0
def it (gs:List (List (Option Nat))) (v:List Int):Nat→List Int
 | 0=>v
 | n+1=>nxt gs (it gs v n)
def pF (v:List Int):D→D
 | .int j=>.int (v.getD j.toNat 0)
 | _=>.none
theorem iz (v:List Int):∀ r:List (Option Nat),dG ((((r.map goD).filter fun t=>!e9 t)).map (pF v))=some ((r.map goD).filterMap (sD v))
 | []=>rfl
 | none :: r=>iz v r
 | some j :: r=>by
  show (dG ((((r.map goD).filter fun t=>!e9 t)).map (pF v))).map (v.getD (j:Int).toNat 0 :: ·)=_
  rw [iz v r]
  rfl
theorem i6 {v:List Int} {j:Nat} (h:j < v.length):ixA (aK v) (.int j)=some (.int (v.getD j 0)):=by
 show atI (v.map PyData.int) (j:Int)=_
 unfold atI
 rw [kZ (by rw [List.length_map]; exact h)]
 show (v.map PyData.int)[j]?=_
 rw [List.getElem?_map,List.getElem?_eq_getElem h,List.getD_eq_getElem?_getD,List.getElem?_eq_getElem h]
 rfl
def inF:ME:=eN fK (ae (eLC true (bt (ac 0)) (gN 0) (tV (e2 cV (ac 0) (eC .none))) (e2 ixA (ac 1) (ac 0)) [none,some 1]) ah)
theorem FW {v:List Int} {r:List (Option Nat)} {S W:Nat} (hr:dP S W r) (hv:v.length=S) (hW:W≤12):inF [some (aQ r),some (aK v)]=some (.int (rsD v (aQ r)),[some (aQ r),some (aK v)]):=by
 obtain ⟨o',e⟩:=eS (c:=tV (e2 cV (ac 0) (eC .none))) (f:=e2 ixA (ac 1) (ac 0)) (p:=fun t=>!e9 t) (F:=pF v) (rest:=[some (aK v)]) (r.map goD) [] none
  (fun t ht=>by
   obtain ⟨o,ho,rfl⟩:=List.mem_map.mp ht
   cases o <;> rfl)
  (fun t ht hp=>by
   obtain ⟨o,ho,rfl⟩:=List.mem_map.mp ht
   cases o with
   | none=>cases hp
   | some j=>exact aV rfl rfl (i6 (by rw [hv]; exact hr.2 _ ho _ rfl)))
  (by rw [List.length_map,hr.1]; exact Nat.le_trans (by show 0+W≤100; omega) aG)
 refine jL (db (kq rfl e rfl) rfl) rfl ?_
 show (dG _).map _=_
 rw [List.nil_append,iz]
 rfl
theorem Ah {i:Nat} {en:En} {es:List Bool} {gs:List (List (Option Nat))} {v:List Int} {S W:Nat} (h0:(ac 0) en=some (aB es gs,en)) (hi:(en[i]?).join=some (aK v)) (hg:∀ r∈gs,dP S W r) (hl:gs.length≤60) (hv:v.length=S) (hW:W≤12) :
  eLC true (bt (e2 ixA (ac 0) (eC (.int 1)))) (gN 0) cY inF [none,some i] en=some (aK (nxt gs v),en):=by
 obtain ⟨o',e⟩:=i4 (f:=inF) (F:=fun t=>.int (rsD v t)) (rest:=[some (aK v)]) (gs.map aQ) [] none
  (fun t ht=>by
   obtain ⟨r,hr,rfl⟩:=List.mem_map.mp ht
   exact FW (hg r hr) hv hW)
  (by rw [List.length_map]; exact Nat.le_trans (by show 0+_≤100; omega) aG)
 have e2':(gs.map aQ).map (fun t=>PyData.int (rsD v t))=(nxt gs v).map .int:=by
  unfold nxt
  rw [List.map_map,List.map_map]
  rfl
 rw [List.nil_append,e2'] at e
 refine kq (ts:=gs.map aQ) (en1:=en) (ex:=[o',some (aK v)]) ?_ ?_ rfl
 ·have:e2 ixA (ac 0) (eC (.int 1)) en=some (.list (gs.map aQ),en):=aV h0 rfl rfl
  unfold bt
  rw [this]
  rfl
 ·show lcF (gN 0) cY inF (gs.map aQ) [] [none,(en[i]?).join]=_
  rw [hi]
  exact e
def b1F:D→D
 | .bool b=>.int (if b then 1 else 0)
 | _=>.none
theorem BD {en:En} {es:List Bool} {gs:List (List (Option Nat))} {f:ME} (h0:(ac 0) en=some (aB es gs,en)) (hf:∀ b,f [some (.bool b)]=some (.int (if b then 1 else 0),[some (.bool b)])) (hl:es.length≤60) :
  eLC true (bt (e2 ixA (ac 0) (eC (.int 0)))) (gN 0) cY f [none] en=some (aK (base es),en):=by
 obtain ⟨o',e⟩:=i4 (f:=f) (F:=b1F) (rest:=[]) (es.map .bool) [] none
  (fun t ht=>by
   obtain ⟨b,hb,rfl⟩:=List.mem_map.mp ht
   exact hf b)
  (by rw [List.length_map]; exact Nat.le_trans (by show 0+_≤100; omega) aG)
 have e2':(es.map PyData.bool).map b1F=(base es).map .int:=by
  unfold base
  rw [List.map_map,List.map_map]
  rfl
 rw [List.nil_append,e2'] at e
 refine kq (ts:=es.map .bool) (en1:=en) ?_ e rfl
 have:e2 ixA (ac 0) (eC (.int 0)) en=some (.list (es.map .bool),en):=aV h0 rfl rfl
 unfold bt
 rw [this]
 rfl
structure MOk (S W:Nat) (es:List Bool) (gs:List (List (Option Nat))):Prop where
 s1:1≤S
 s2:S≤40
 w1:1≤W
 w2:W≤12
 le:es.length=S
 lg:gs.length=S
 ok:∀ r∈gs,dP S W r
section
variable {S W:Nat} {es:List Bool} {gs:List (List (Option Nat))}
theorem MOk.lit (M:MOk S W es gs):∀ n,(it gs (base es) n).length=S
 | 0=>by show (es.map _).length=S; rw [List.length_map,M.le]
 | n+1=>by show (gs.map _).length=S; rw [List.length_map,M.lg]
def cU (gs:List (List (Option Nat))) (es:List Bool) (n:Nat):D:=.list ((List.range (n+1)).map fun i=>aK (it gs (base es) i))
theorem gg {n:Nat}:((List.range (n+1)).map fun i=>aK (it gs (base es) i)).length=n+1:=by rw [List.length_map,List.length_range]
theorem Du {n i:Nat} (h:i≤n):ixA (cU gs es n) (.int i)=some (aK (it gs (base es) i)):=by
 show atI _ (i:Int)=_
 unfold atI
 rw [kZ (by rw [gg]; omega)]
 show ((List.range (n+1)).map fun i=>aK (it gs (base es) i))[i]?=_
 rw [List.getElem?_map,List.getElem?_range (by omega)]
 rfl
theorem sr {n:Nat}:atI ((List.range (n+1)).map fun i=>aK (it gs (base es) i)) (-1)=some (aK (it gs (base es) n)):=by
 unfold atI ixN
 rw [gg,if_neg (by decide),if_pos (by omega)]
 show ((List.range (n+1)).map fun i=>aK (it gs (base es) i))[((-1:Int)+((n+1:Nat):Int)).toNat]?=_
 rw [show ((-1:Int)+((n+1:Nat):Int)).toNat=n by omega,List.getElem?_map,List.getElem?_range (by omega)]
 rfl
theorem so {n:Nat}:((List.range (n+1)).map fun i=>aK (it gs (base es) i))++[aK (it gs (base es) (n+1))]=(List.range (n+1+1)).map fun i=>aK (it gs (base es) i):=by
 rw [List.range_succ (n:=n+1),List.map_append]
 rfl
theorem AE (M:MOk S W es gs):bd [aB es gs]=some (aK (base es),[none]) :=
 bT (b:=bN) (en:=[some (aB es gs)]) (gW (BD rfl (fun b=>by cases b <;> rfl) (by rw [M.le]; have:=M.s2; omega)))
theorem AH (M:MOk S W es gs) {v:List Int} (hv:v.length=S):aS [aB es gs,aK v]=some (aK (nxt gs v),[none,none]) :=
 bT (b:=bj) (en:=[some (aB es gs),some (aK v)]) (gW (Ah rfl rfl M.ok (by rw [M.lg]; have:=M.s2; omega) hv M.w2))
theorem sm (M:MOk S W es gs) {N:Nat} (hN:N≤60):eG [aB es gs,.int N]=some (cU gs es N,[none,none]):=by
 have key:∀ (m n:Nat),n+m=N→bG (tV (e2 leI (eN br (ae (ac 2) ah)) (ac 1))) (bY (bZ 2 (ar aS (ae (ac 0) (ae (cC 2 (e1 kX (eC (.int 1)))) ah))))) [some (aB es gs),some (.int N),some (cU gs es n)]=some (.nx [some (aB es gs),some (.int N),some (cU gs es N)]):=by
  intro m
  induction m with
  | zero =>
   intro n hn
   have:n=N:=by omega
   subst this
   refine jj (ef (aV (jL rfl rfl rfl) rfl ?_))
   show some (PyData.bool (decide ((((List.range (n+1)).map fun i=>aK (it gs (base es) i)).length:Int)≤(n:Int))))=_
   rw [gg,decide_eq_false (by omega)]
  | succ m ih =>
   intro n hn
   refine jk (en1:=[some (aB es gs),some (.int N),some (cU gs es n)]) (en2:=[some (aB es gs),some (.int N),some (cU gs es (n+1))]) (ef (aV (jL rfl rfl rfl) rfl ?_)) ?_ (ih (n+1) (by omega))
   ·show some (PyData.bool (decide ((((List.range (n+1)).map fun i=>aK (it gs (base es) i)).length:Int)≤(N:Int))))=_
    rw [gg,decide_eq_true (by omega)]
   ·have ix:cC 2 (e1 kX (eC (.int 1))) [some (aB es gs),some (.int N),some (cU gs es n)]=some (aK (it gs (base es) n),[some (aB es gs),some (.int N),some (cU gs es n)]):=by
     show (atI ((List.range (n+1)).map fun i=>aK (it gs (base es) i)) (-1)).map (fun t=>(t,[some (aB es gs),some (PyData.int N),some (cU gs es n)]))=_
     rw [sr]
     rfl
    refine nz (nA (ts:=(List.range (n+1)).map fun i=>aK (it gs (base es) i)) (us:=(List.range (n+1)).map fun i=>aK (it gs (base es) i)) (en1:=[some (aB es gs),some (.int N),some (cU gs es n)]) rfl (cL (db rfl (db ix rfl)) rfl (AH M (M.lit n)) rfl) rfl (by rw [gg]; exact Nat.lt_of_lt_of_le (by omega) aG) ?_)
    rw [show aK (nxt gs (it gs (base es) n))=aK (it gs (base es) (n+1)) from rfl,so]
    rfl
 refine bT (b:=iU) (en:=[some (aB es gs),some (.int N),some (cU gs es N)]) (az (en1:=[some (aB es gs),some (.int N),some (cU gs es 0)]) (bH (ko (db (cL rfl rfl (AE M) rfl) rfl) rfl (Nat.le_trans (by show 1≤100; decide) aG)) rfl) (az (key N 0 (by omega)) rfl))
end
section
variable {S W:Nat} {es:List Bool} {gs:List (List (Option Nat))}
end
end Mch
namespace L2
open PySem PySem.Spec PyProof.Rows
structure W {α:Type} (x:Option α) (Q:α→Prop):Prop where
 ex:∃ a,x=some a∧Q a
theorem au {α:Type} (a:α) (Q:α→Prop):W (some a) Q=Q a:=propext ⟨fun ⟨b,e,h⟩=>(Option.some.inj e) ▸ h,fun h=>⟨a,rfl,h⟩⟩
theorem aZ {α:Type} (Q:α→Prop):W (none:Option α) Q=False:=propext ⟨(fun ⟨b,e,h⟩=>by cases e),(fun h=>h.elim)⟩
theorem W.use {α:Type} {x:Option α} {P Q:α→Prop} (h:W x P) (k:∀ a,P a→Q a):W x Q :=
 let ⟨a,e,h⟩:=h.ex
 ⟨a,e,k a h⟩
theorem W.of {α:Type} {x:Option α} {P:α→Prop} {a:α} (e:x=some a) (h:P a):W x P:=⟨a,e,h⟩
theorem av {α β:Type} (x:Option α) (f:α→Option β) (Q:β→Prop):W (x.bind f) Q=W x (fun a=>W (f a) Q):=by
 cases x with
 | none=>show W none _=_; rw [aZ,aZ]
 | some a=>show W (f a) Q=_; rw [au]
theorem bh {α β:Type} (x:Option α) (f:α→β) (Q:β→Prop):W (x.map f) Q=W x (fun a=>Q (f a)):=by
 cases x with
 | none=>show W none _=_; rw [aZ,aZ]
 | some a=>show W (some (f a)) Q=_; rw [au,au]
theorem p9 {α:Type} (c:Prop) [Decidable c] (a:α) (Q:α→Prop):W (grd c a) Q=(c∧Q a):=by
 unfold grd
 by_cases h:c
 ·rw [if_pos h,au]; exact propext ⟨fun z=>⟨h,z⟩,fun z=>z.2⟩
 ·rw [if_neg h,aZ]; exact propext ⟨fun z=>z.elim,fun z=>h z.1⟩
theorem fW {α:Type} (c:Prop) [Decidable c] (a:α) (Q:α→Prop):W (if c then some a else none) Q=(c∧Q a):=p9 c a Q
theorem p8 {α:Type} (c:Prop) [Decidable c] (x:Option α) (Q:α→Prop):W (if c then x else none) Q=(c∧W x Q):=by
 by_cases h:c
 ·rw [if_pos h]; exact propext ⟨fun z=>⟨h,z⟩,fun z=>z.2⟩
 ·rw [if_neg h,aZ]; exact propext ⟨fun z=>z.elim,fun z=>h z.1⟩
def gv (en:En) (i:Nat):Option D:=(en[i]?).join
def fL (ts:List D) (n:Int) (t:D):Option (List D):=(ixN ts.length n).map fun k=>ts.set k t
def pr (ts:List D) (n:Int):Option (D × List D):=(seqIndex? n ts.length).bind fun k=>(ts[k]?).map fun t=>(t,ts.eraseIdx k)
def fN (i:Int) (n:Nat):List D:=(List.range n).map fun k=>.int (i+(k:Nat))
section
variable {α β:Type}
def pK (b:MS) (Q:Fl→Prop):Fl→Prop:=fun fl=>W (match fl with | .nx en1=>b en1 | .rt t en1=>some (.rt t en1) | .ct en1=>some (.ct en1)) Q
def Em (i:Nat) (Q:Fl→Prop):D × En→Prop:=fun r=>Q (.nx (r.2.set i (some r.1)))
def Eu (Q:Fl→Prop):D × En→Prop:=fun r=>Q (.nx r.2)
def Eo (Q:Fl→Prop):D × En→Prop:=fun r=>Q (.rt r.1 r.2)
def kIf (f g:En→Option β) (Q:β→Prop):Bool × En→Prop:=fun r=>W (if r.1 then f r.2 else g r.2) Q
def Et (g:MG) (b:MS) (Q:Fl→Prop):List D × En→Prop:=fun r=>W (cf g b r.1 r.2) Q
def kc (g:MG) (b:MS) (ts:List D) (Q:Fl→Prop):Fl→Prop:=fun fl=>W (match fl with | .nx en2=>cf g b ts en2 | .ct en2=>cf g b ts en2 | .rt r en2=>some (.rt r en2)) Q
def zM (g:MG) (b:MS) (ts:List D) (Q:Fl→Prop):En→Prop:=fun en=>W (b en) (kc g b ts Q)
def sV (i:Nat) (en:En) (Q:Fl→Prop):List D→Prop:=fun ts=>Q (.nx (en.set i (some (.list ts))))
def ka (i:Nat) (t:D) (Q:Fl→Prop):D × En→Prop:=fun q=>W (match q.1,(q.2[i]?).join with | .int n,some (.list ts)=>(ixN ts.length n).map fun k=>.nx (q.2.set i (some (.list (ts.set k t)))) | _,_=>none) Q
def pJ (i:Nat) (fk:ME) (Q:Fl→Prop):D × En→Prop:=fun r=>W (match (r.2[i]?).join with | some _=>((fk r.2).bind fun q=>(match q.1,(q.2[i]?).join with | .int n,some (.list ts)=>(ixN ts.length n).map fun k=>.nx (q.2.set i (some (.list (ts.set k r.1)))) | _,_=>none)) | none=>none) Q
def rf (i:Nat) (t:D) (fk:ME) (en:En) (Q:Fl→Prop):D→Prop:=fun _x=>W (fk en) (ka i t Q)
def m8 (i:Nat) (t:D) (n:Int) (en:En) (Q:Fl→Prop):D→Prop:=fun x=>W (match x with | .list ts=>(ixN ts.length n).map fun k=>.nx (en.set i (some (.list (ts.set k t)))) | _=>none) Q
def dU (en:En) (Q:D × En→Prop):D→Prop:=fun t=>Q (t,en)
def k1 (g:D→Option D) (Q:D × En→Prop):D × En→Prop:=fun r=>W (g r.1) (dU r.2 Q)
def k2b (g:D→D→Option D) (t:D) (Q:D × En→Prop):D × En→Prop:=fun q=>W (g t q.1) (dU q.2 Q)
def k2 (g:D→D→Option D) (f:ME) (Q:D × En→Prop):D × En→Prop:=fun r=>W (f r.2) (k2b g r.1 Q)
def sY (g:ME) (Q:D × En→Prop):D × En→Prop:=fun r=>W (match r.1 with | .bool true=>g r.2 | .bool false=>some (.bool false,r.2) | _=>none) Q
def kOr (g:ME) (Q:D × En→Prop):D × En→Prop:=fun r=>W (match r.1 with | .bool true=>some (.bool true,r.2) | .bool false=>g r.2 | _=>none) Q
def kTV (Q:Bool × En→Prop):D × En→Prop:=fun r=>W (match r.1 with | .bool b=>some (b,r.2) | _=>none) Q
def pR (g:MT) (Q:Bool × En→Prop):Bool × En→Prop:=fun r=>W (if r.1 then g r.2 else some (false,r.2)) Q
def sX (g:MT) (Q:Bool × En→Prop):Bool × En→Prop:=fun r=>W (if r.1 then some (true,r.2) else g r.2) Q
def zO (Q:Bool × En→Prop):Bool × En→Prop:=fun r=>Q (!r.1,r.2)
def s0 (t:D) (Q:List (D ⊕ Nat) × En→Prop):List (D ⊕ Nat) × En→Prop:=fun y=>Q (.inl t :: y.1,y.2)
def kAC (r:MA) (Q:List (D ⊕ Nat) × En→Prop):D × En→Prop:=fun x=>W (r x.2) (s0 x.1 Q)
def sZ (i:Nat) (Q:List (D ⊕ Nat) × En→Prop):List (D ⊕ Nat) × En→Prop:=fun y=>Q (.inr i :: y.1,y.2)
def kAS (i:Nat) (r:MA) (en:En) (Q:List (D ⊕ Nat) × En→Prop):D→Prop:=fun _x=>W (r en) (sZ i Q)
def kN2 (g:List D→Option D) (en:En) (Q:D × En→Prop):List D→Prop:=fun ts=>W (g ts) (dU en Q)
def kN (g:List D→Option D) (Q:D × En→Prop):List (D ⊕ Nat) × En→Prop:=fun r=>W (vals r.1) (kN2 g r.2 Q)
def pN (en:En) (Q:D × En→Prop):List D→Prop:=fun ts=>W (if ts.length≤sizeLine then some (.list ts,en) else none) Q
def Er (Q:D × En→Prop):List (D ⊕ Nat) × En→Prop:=fun r=>W (vals r.1) (pN r.2 Q)
def pI (en:En) (Q:D × En→Prop):List D→Prop:=fun ts=>W (if ts.length≤sizeLine then some (.tuple ts,en) else none) Q
def El (Q:D × En→Prop):List (D ⊕ Nat) × En→Prop:=fun r=>W (vals r.1) (pI r.2 Q)
def nb (as:List (D ⊕ Nat)) (en:En) (Q:D × En→Prop):D × En→Prop:=fun q=>Q (q.1,wb as q.2 en)
def nc (F:List D→Option (D × En)) (as:List (D ⊕ Nat)) (en:En) (Q:D × En→Prop):List D→Prop:=fun ts=>W (F ts) (nb as en Q)
def zN (F:List D→Option (D × En)) (Q:D × En→Prop):List (D ⊕ Nat) × En→Prop:=fun r=>W (b8 r.1 r.2) (nc F r.1 r.2 Q)
def kFn (dps:List Nat) (Q:D × En→Prop):Fl→Prop:=fun fl=>W (match fl with | .rt t en=>some (t,msk dps en) | .nx en=>some (.none,msk dps en) | .ct _=>none) Q
def pP (q:Bool) (js:List (Option Nat)) (en:En) (Q:D × En→Prop):List D × En→Prop:=fun z=>Q (.list z.1,if q then en else wbB js z.2 en)
def kLC (q:Bool) (g:MG) (c:MT) (f:ME) (js:List (Option Nat)) (Q:D × En→Prop):List D × En→Prop:=fun r=>W (lcF g c f r.1 [] (bU js r.2)) (pP q js r.2 Q)
def kL3 (g:MG) (c:MT) (f:ME) (ts acc:List D) (Q:List D × En→Prop):D × En→Prop:=fun q=>W (if acc.length < sizeLine then lcF g c f ts (acc++[q.1]) q.2 else none) Q
def kL2 (g:MG) (c:MT) (f:ME) (ts acc:List D) (Q:List D × En→Prop):Bool × En→Prop:=fun r=>W (if r.1 then (f r.2).bind fun q=>if acc.length < sizeLine then lcF g c f ts (acc++[q.1]) q.2 else none else lcF g c f ts acc r.2) Q
def kL1 (g:MG) (c:MT) (f:ME) (ts acc:List D) (Q:List D × En→Prop):En→Prop:=fun en=>W (c en) (kL2 g c f ts acc Q)
def pT (Q:List D × En→Prop):D × En→Prop:=fun r=>W ((zx r.1).map fun ts=>(ts,r.2)) Q
def kR1 (Q:List D × En→Prop):List (D ⊕ Nat) × En→Prop:=fun r=>W (match r.1 with | [.inl (.int j)]=>if -(2 ^ 62)≤j∧j < 2 ^ 62 then some ((List.range j.toNat).map fun k=>.int (0+(k:Nat)),r.2) else none | _=>none) Q
def kEn (Q:List D × En→Prop):List (D ⊕ Nat) × En→Prop:=fun r=>W (match r.1 with | [.inl (.list ts)]=>some (de ts,r.2) | [.inl (.tuple ts)]=>some (de ts,r.2) | _=>none) Q
def qW (n:Int) (en:En) (Q:D × En→Prop):D→Prop:=fun x=>W (match x with | .list ts=>(atI ts n).map fun t=>(t,en) | _=>none) Q
def j9 (i:Nat) (Q:D × En→Prop):D × En→Prop:=fun r=>W (match r.1,(r.2[i]?).join with | .int n,some (.list ts)=>(atI ts n).map fun t=>(t,r.2) | _,_=>none) Q
def zK (i:Nat) (f:ME) (en:En) (Q:D × En→Prop):D→Prop:=fun _x=>W (f en) (j9 i Q)
def pS (i:Nat) (Q:D × En→Prop):D × En→Prop:=fun r=>W (match (r.2[i]?).join with | some (.list ts)=>if ts.length < sizeLine then some (PyData.none,r.2.set i (some (.list (ts++[r.1])))) else none | _=>none) Q
def zP (i:Nat) (t:D) (en:En) (Q:D × En→Prop):D→Prop:=fun x=>W (match x with | .list ts=>if ts.length < sizeLine then some (PyData.none,en.set i (some (.list (ts++[t])))) else none | _=>none) Q
def Ew (i:Nat) (f:ME) (en:En) (Q:D × En→Prop):D→Prop:=fun x=>W (match x with | .list _=>((f en).bind fun r=>(match (r.2[i]?).join with | some (.list ts)=>if ts.length < sizeLine then some (PyData.none,r.2.set i (some (.list (ts++[r.1])))) else none | _=>none)) | _=>none) Q
def kOS (Q:Option Int × En→Prop):D × En→Prop:=fun r=>W (match r.1 with | .int i=>some (some i,r.2) | _=>none) Q
def sT (g:D→Option Int→Option Int→Option D) (t:D) (lo:Option Int) (Q:D × En→Prop):Option Int × En→Prop:=fun h=>W (g t lo h.1) (dU h.2 Q)
def sU (g:D→Option Int→Option Int→Option D) (t:D) (hi:MO) (Q:D × En→Prop):Option Int × En→Prop:=fun l=>W (hi l.2) (sT g t l.1 Q)
def kSl (g:D→Option Int→Option Int→Option D) (lo hi:MO) (Q:D × En→Prop):D × En→Prop:=fun r=>W (lo r.2) (sU g r.1 hi Q)
def kM2 (g:Str→List D→Option D) (z:Str) (en:En) (Q:D × En→Prop):List D→Prop:=fun ts=>W (g z ts) (dU en Q)
def kM1 (g:Str→List D→Option D) (z:Str) (Q:D × En→Prop):List (D ⊕ Nat) × En→Prop:=fun q=>W (vals q.1) (kM2 g z q.2 Q)
def kM (g:Str→List D→Option D) (fa:MA) (Q:D × En→Prop):D × En→Prop:=fun r=>W (match r.1 with | .str z=>(fa r.2).bind fun q=>(vals q.1).bind fun ts=>(g z ts).map fun t=>(t,q.2) | _=>none) Q
def pQ (i:Nat) (Q:D × En→Prop):D × En→Prop:=fun r=>W (match (r.2[i]?).join with | some (.dict ks)=>(kOf r.1).bind fun _=>(eg ks r.1).map fun t=>(t,r.2) | _=>none) Q
def GI (q:D) (en:En) (Q:D × En→Prop):D→Prop:=fun x=>W (match x with | .dict ks=>(kOf q).bind fun _=>(eg ks q).map fun t=>(t,en) | _=>none) Q
def kDg (f:ME) (i:Nat) (en:En) (Q:D × En→Prop):D→Prop:=fun _x=>W (f en) (pQ i Q)
def kIt (J:En→Prop) (Q:Fl→Prop):Fl→Prop:=fun fl=>match fl with | .nx e=>J e | .ct e=>J e | .rt t e=>Q (.rt t e)
def sW (us:List D) (J:List D→En→Prop):D × En→Prop:=fun r=>J (us++[r.1]) r.2
def pO (f:ME) (us:List D) (J:List D→En→Prop):Bool × En→Prop:=fun r=>if r.1 then W (f r.2) (sW us J) else J us r.2
def Es (c:MT) (f:ME) (us:List D) (J:List D→En→Prop):En→Prop:=fun en=>W (c en) (pO f us J)
def kWh (b:MS) (J:En→Prop) (Q:Fl→Prop):Bool × En→Prop:=fun r=>if r.1 then W (b r.2) (kIt J Q) else Q (.nx r.2)
def kFg (b:MS) (J:En→Prop) (Q:Fl→Prop):En→Prop:=fun en=>W (b en) (kIt J Q)
def zL (i:Nat) (en:En) (Q:D × En→Prop):D × List D→Prop:=fun r=>Q (r.1,en.set i (some (.list r.2)))
def pL (i:Nat) (n:Int) (en:En) (Q:D × En→Prop):D→Prop:=fun x=>W (match x with | .list ts=>(if -(2 ^ 63)≤n∧n < 2 ^ 63 then (seqIndex? n ts.length).bind fun k=>(ts[k]?).map fun t=>(t,en.set i (some (.list (ts.eraseIdx k)))) else none) | _=>none) Q
def pM (i:Nat) (Q:D × En→Prop):D × En→Prop:=fun r=>W (match r.1,(r.2[i]?).join with | .int n,some (.list ts)=>(if -(2 ^ 63)≤n∧n < 2 ^ 63 then (seqIndex? n ts.length).bind fun k=>(ts[k]?).map fun t=>(t,r.2.set i (some (.list (ts.eraseIdx k)))) else none) | _,_=>none) Q
def Ep (i:Nat) (f:ME) (en:En) (Q:D × En→Prop):D→Prop:=fun x=>W (match x with | .list _=>(f en).bind (fun r=>match r.1,(r.2[i]?).join with | .int n,some (.list ts)=>(if -(2 ^ 63)≤n∧n < 2 ^ 63 then (seqIndex? n ts.length).bind fun k=>(ts[k]?).map fun t=>(t,r.2.set i (some (.list (ts.eraseIdx k)))) else none) | _,_=>none) | _=>none) Q
def kS1 (Q:D→Prop):Nat→Prop:=fun c=>Q (.str (mk1 c))
def kGs (q:List D→En→Option En) (ts:List D) (Q:En→Prop):En→Prop:=fun en=>W (q ts en) Q
def ke (t:D) (Q:List D→Prop):List D→Prop:=fun ts=>Q (t :: ts)
def Ev (r:List (D ⊕ Nat)) (en:En) (Q:List D→Prop):D→Prop:=fun t=>W (b8 r en) (ke t Q)
theorem aW {α:Type} (ts:List α) (n:Nat):atI ts (n:Int)=ts[n]?:=by
 unfold atI ixN
 rw [if_pos (by omega)]
 by_cases h:n < ts.length
 ·rw [if_pos (by omega)]; rfl
 ·rw [if_neg (by omega),List.getElem?_eq_none (by omega)]; rfl
theorem dR {ts:List D} {t:D} (n:Nat) (h:n < ts.length):fL ts (n:Int) t=some (ts.set n t):=by
 unfold fL ixN
 rw [if_pos (by omega),if_pos (by omega)]
 rfl
theorem Bz (x:D) (l:List D):dL (x :: l) (some 1) none=l:=by
 unfold dL
 rw [HT.sIx_none,show (some (1:Int))=some ((1:Nat):Int) from rfl,HT.sIx_nat,Nat.min_eq_left (by simp),List.drop_one]
 exact List.take_of_length_le (by simp)
theorem Gu (x:D) (l:List D):(HT.sIx (x :: l).length 0 (some 1)=0)=False:=by
 rw [show (some (1:Int))=some ((1:Nat):Int) from rfl,HT.sIx_nat,Nat.min_eq_left (by simp)]
 exact eq_false (by decide)
theorem oO (a b:Int):(a == b)=decide (a=b):=by
 by_cases h:a=b
 ·rw [h,decide_eq_true rfl]; exact beq_self_eq_true b
 ·rw [decide_eq_false h]; exact beq_eq_false_iff_ne.mpr h
theorem Bx (a b:Bool):eqD (.bool a) (.bool b)=some (.bool (a == b)):=by
 show grd _ _=_
 unfold grd
 rw [if_pos ⟨rfl,rfl,Nat.zero_le _⟩]
 simp only [peq]
theorem AF (a b:Bool):neD (.bool a) (.bool b)=some (.bool (!(a == b))):=by
 show grd _ _=_
 unfold grd
 rw [if_pos ⟨rfl,rfl,Nat.zero_le _⟩]
 simp only [peq]
theorem oh (a b:Str):(a == b)=decide (a=b):=by
 by_cases h:a=b
 ·rw [h,decide_eq_true rfl]; exact beq_self_eq_true b
 ·rw [decide_eq_false h]; exact beq_eq_false_iff_ne.mpr h
theorem Fq (a b:Str):eqD (.str a) (.str b)=some (.bool (decide (a=b))):=by
 show grd _ _=_
 unfold grd
 rw [if_pos ⟨rfl,rfl,Nat.zero_le _⟩,← oh]
 simp only [peq]
theorem D9 (a b:Str):neD (.str a) (.str b)=some (.bool (!decide (a=b))):=by
 show grd _ _=_
 unfold grd
 rw [if_pos ⟨rfl,rfl,Nat.zero_le _⟩,← oh]
 simp only [peq]
theorem Fs:eqD (.list []) (.list [])=some (.bool true):=by
 show grd _ _=_
 unfold grd
 rw [if_pos ⟨rfl,rfl,by decide⟩]
 rfl
theorem Ea:neD (.list []) (.list [])=some (.bool false):=by
 show grd _ _=_
 unfold grd
 rw [if_pos ⟨rfl,rfl,by decide⟩]
 rfl
variable (en:En) (Qs:Fl→Prop) (Qe:D × En→Prop) (Qb:Bool × En→Prop) (Qa:List (D ⊕ Nat) × En→Prop) (Ql:List D × En→Prop) (Qd:D→Prop) (Qt:List D→Prop) (Qn:En→Prop) (f:ME) (g:MG) (fa:MA) (c:MT) (ts:List D) (i:Nat)
theorem ws0 (α:Type) (a:α) (Q:α→Prop):W (some a) Q=Q a:=au _ _
theorem ws1 (α:Type) (Q:α→Prop):W (none:Option α) Q=False:=aZ _
theorem ws2 (α:Type) (c:Prop) (_:Decidable c) (a:α) (Q:α→Prop):W (grd c a) Q=(c∧Q a):=p9 c a Q
theorem ws3 (a:Option D) (l:En):gv (a :: l) 0=a:=rfl
theorem ws4 (a:Option D) (l:En):gv (a :: l) (i+1)=gv l i:=rfl
theorem ws5 (a b:Option D) (l:En):List.set (a :: l) 0 b=b :: l:=rfl
theorem ws6 (a b:Option D) (l:En):List.set (a :: l) (i+1) b=a :: List.set l i b:=rfl
theorem ws7 (a b:MS):W (ak a b en) Qs=W (a en) (pK b Qs):=av _ _ _
theorem ws8 (b:MS):pK b Qs (.nx en)=W (b en) Qs:=rfl
theorem ws9 (b:MS) (t:D):pK b Qs (.rt t en)=Qs (.rt t en):=au _ _
theorem Ds (b:MS):pK b Qs (.ct en)=Qs (.ct en):=au _ _
theorem Dr:W (aq i f en) Qs=W (f en) (Em i Qs):=bh _ _ _
theorem Dq (t:D):Em i Qs (t,en)=Qs (.nx (en.set i (some t))):=rfl
theorem Dp:W (bY f en) Qs=W (f en) (Eu Qs):=bh _ _ _
theorem Do (t:D):Eu Qs (t,en)=Qs (.nx en):=rfl
theorem Dm:W (aC f en) Qs=W (f en) (Eo Qs):=bh _ _ _
theorem Dl (t:D):Eo Qs (t,en)=Qs (.rt t en):=rfl
theorem Dk:W (bq en) Qs=Qs (.nx en):=au _ _
theorem Dj:W (dD en) Qs=False:=aZ _
theorem Di (a b:MS):W (sIf c a b en) Qs=W (c en) (kIf a b Qs):=av _ _ _
theorem Dh (β:Type) (a b:En→Option β) (Q:β→Prop):kIf a b Q (true,en)=W (a en) Q:=rfl
theorem Dg (β:Type) (a b:En→Option β) (Q:β→Prop):kIf a b Q (false,en)=W (b en) Q:=rfl
theorem De (fi:MI) (b:MS):W (dk fi g b en) Qs=W (fi en) (Et g b Qs):=av _ _ _
theorem Dd (b:MS):Et g b Qs (ts,en)=W (cf g b ts en) Qs:=rfl
theorem Dc (b:MS):W (cf g b [] en) Qs=Qs (.nx en):=au _ _
theorem Db (b:MS) (t:D):W (cf g b (t :: ts) en) Qs=W (g t en) (zM g b ts Qs):=(av _ _ _).trans (congrArg _ (funext fun z=>av _ _ _))
theorem Da (b:MS):zM g b ts Qs en=W (b en) (kc g b ts Qs):=rfl
theorem C9 (b:MS):kc g b ts Qs (.nx en)=W (cf g b ts en) Qs:=rfl
theorem C8 (b:MS):kc g b ts Qs (.ct en)=W (cf g b ts en) Qs:=rfl
theorem C7 (b:MS) (t:D):kc g b ts Qs (.rt t en)=Qs (.rt t en):=au _ _
theorem C6 (t:D):W (gN i t en) Qn=Qn (en.set i (some t)):=au _ _
theorem C5 (g:List D→En→Option En):W (gT g (.tuple ts) en) Qn=W (g ts en) Qn:=rfl
theorem C4 (q:List D→En→Option En) (t:D):W (gsC g q (t :: ts) en) Qn=W (g t en) (kGs q ts Qn):=av _ _ _
theorem C3 (q:List D→En→Option En):kGs q ts Qn en=W (q ts en) Qn:=rfl
theorem C2:W (gs0 [] en) Qn=Qn en:=au _ _
theorem C1 (fk fe:ME):W (dC i fk fe en) Qs=W (fe en) (pJ i fk Qs):=av _ _ _
theorem CZ (fk:ME) (t:D):pJ i fk Qs (t,en)=W (gv en i) (rf i t fk en Qs):=by unfold pJ gv; cases h:(en[i]?).join with | none=>simp only [h,aZ] | some x=>simp only [h,au]; exact av _ _ _
theorem CY (t:D) (fk:ME) (x:D):rf i t fk en Qs x=W (fk en) (ka i t Qs):=rfl
theorem CW (t:D) (n:Int):ka i t Qs (.int n,en)=W (gv en i) (m8 i t n en Qs):=by unfold ka gv; cases h:(en[i]?).join with | none=>simp only [h,aZ] | some x=>simp only [h,au]; cases x <;> first | rfl | exact (au _ _).symm | (rw [au]; rfl) | (rw [au]; exact aZ _)
theorem CV (t:D) (n:Int):m8 i t n en Qs (.list ts)=W (fL ts n t) (sV i en Qs):=by unfold m8 fL sV; dsimp only; rw [bh,bh]
theorem CU:sV i en Qs ts=Qs (.nx (en.set i (some (.list ts)))):=rfl
theorem CT (x0 t:D) (l:List D):fL (x0 :: l) 0 t=some (t :: l):=dR 0 (by simp only [List.length_cons]; omega)
theorem CQ (x0 x1 t:D) (l:List D):fL (x0 :: x1 :: l) 1 t=some (x0 :: t :: l):=dR 1 (by simp only [List.length_cons]; omega)
theorem CP (x0 x1 x2 t:D) (l:List D):fL (x0 :: x1 :: x2 :: l) 2 t=some (x0 :: x1 :: t :: l):=dR 2 (by simp only [List.length_cons]; omega)
theorem CO (x0 x1 x2 x3 t:D) (l:List D):fL (x0 :: x1 :: x2 :: x3 :: l) 3 t=some (x0 :: x1 :: x2 :: t :: l):=dR 3 (by simp only [List.length_cons]; omega)
theorem CN (x0 x1 x2 x3 x4 t:D) (l:List D):fL (x0 :: x1 :: x2 :: x3 :: x4 :: l) 4 t=some (x0 :: x1 :: x2 :: x3 :: t :: l):=dR 4 (by simp only [List.length_cons]; omega)
theorem CM (x0 x1 x2 x3 x4 x5 t:D) (l:List D):fL (x0 :: x1 :: x2 :: x3 :: x4 :: x5 :: l) 5 t=some (x0 :: x1 :: x2 :: x3 :: x4 :: t :: l):=dR 5 (by simp only [List.length_cons]; omega)
theorem CL:W (ac i en) Qe=W (gv en i) (dU en Qe):=bh _ _ _
theorem CK (t:D):dU en Qe t=Qe (t,en):=rfl
theorem CJ (t:D):W (eC t en) Qe=Qe (t,en):=au _ _
theorem CI (g:D→Option D):W (e1 g f en) Qe=W (f en) (k1 g Qe):=(av _ _ _).trans (congrArg _ (funext fun z=>bh _ _ _))
theorem CH (g:D→Option D) (t:D):k1 g Qe (t,en)=W (g t) (dU en Qe):=rfl
theorem CG (g:D→D→Option D) (f1 f2:ME):W (e2 g f1 f2 en) Qe=W (f1 en) (k2 g f2 Qe):=(av _ _ _).trans (congrArg _ (funext fun z=>(av _ _ _).trans (congrArg _ (funext fun y=>bh _ _ _))))
theorem CF (g:D→D→Option D) (f2:ME) (t:D):k2 g f2 Qe (t,en)=W (f2 en) (k2b g t Qe):=rfl
theorem CD (g:D→D→Option D) (t u:D):k2b g t Qe (u,en)=W (g t u) (dU en Qe):=rfl
theorem CC (f g:ME):W (jN f g en) Qe=W (f en) (sY g Qe):=av _ _ _
theorem CB (g:ME):sY g Qe (.bool true,en)=W (g en) Qe:=rfl
theorem CA (g:ME):sY g Qe (.bool false,en)=Qe (.bool false,en):=au _ _
theorem Cz (f g:ME):W (eOr f g en) Qe=W (f en) (kOr g Qe):=av _ _ _
theorem Cy (g:ME):kOr g Qe (.bool true,en)=Qe (.bool true,en):=au _ _
theorem Cw (g:ME):kOr g Qe (.bool false,en)=W (g en) Qe:=rfl
theorem Cv (f g:ME):W (eIf c f g en) Qe=W (c en) (kIf f g Qe):=av _ _ _
theorem Cu:W (tV f en) Qb=W (f en) (kTV Qb):=av _ _ _
theorem Ct (x:Bool):kTV Qb (.bool x,en)=Qb (x,en):=au _ _
theorem Cs (f g:MT):W (cE f g en) Qb=W (f en) (pR g Qb):=av _ _ _
theorem Cr (g:MT):pR g Qb (true,en)=W (g en) Qb:=rfl
theorem Cq (g:MT):pR g Qb (false,en)=Qb (false,en):=au _ _
theorem Cp (f g:MT):W (bOr f g en) Qb=W (f en) (sX g Qb):=av _ _ _
theorem Co (g:MT):sX g Qb (true,en)=Qb (true,en):=au _ _
theorem Cn (g:MT):sX g Qb (false,en)=W (g en) Qb:=rfl
theorem Cm (f:MT):W (cW f en) Qb=W (f en) (zO Qb):=bh _ _ _
theorem Cl (x:Bool):zO Qb (x,en)=Qb (!x,en):=rfl
theorem Ck:W (cY en) Qb=Qb (true,en):=au _ _
theorem Cj:W (ah en) Qa=Qa ([],en):=au _ _
theorem Ci (r:MA):W (ae f r en) Qa=W (f en) (kAC r Qa):=(av _ _ _).trans (congrArg _ (funext fun z=>bh _ _ _))
theorem Ch (r:MA) (t:D):kAC r Qa (t,en)=W (r en) (s0 t Qa):=rfl
theorem Cg (t:D) (as:List (D ⊕ Nat)):s0 t Qa (as,en)=Qa (.inl t :: as,en):=rfl
theorem Cf (r:MA):W (aL i r en) Qa=W (gv en i) (kAS i r en Qa):=(av _ _ _).trans (congrArg _ (funext fun z=>bh _ _ _))
theorem Ce (r:MA) (t:D):kAS i r en Qa t=W (r en) (sZ i Qa):=rfl
theorem Cd (as:List (D ⊕ Nat)):sZ i Qa (as,en)=Qa (.inr i :: as,en):=rfl
theorem Cc:vals []=some []:=rfl
theorem Cb (t:D) (r:List (D ⊕ Nat)):W (vals (.inl t :: r)) Qt=W (vals r) (ke t Qt):=bh _ _ _
theorem Ca (t:D):ke t Qt ts=Qt (t :: ts):=rfl
theorem B9:b8 [] en=some []:=rfl
theorem B8 (t:D) (r:List (D ⊕ Nat)):W (b8 (.inl t :: r) en) Qt=W (b8 r en) (ke t Qt):=bh _ _ _
theorem B7 (r:List (D ⊕ Nat)):W (b8 (.inr i :: r) en) Qt=W (gv en i) (Ev r en Qt):=(av _ _ _).trans (congrArg _ (funext fun z=>bh _ _ _))
theorem B6 (t:D) (r:List (D ⊕ Nat)):Ev r en Qt t=W (b8 r en) (ke t Qt):=rfl
theorem B5 (r:List (D ⊕ Nat)) (o:Option D) (outs:En):wb (.inr i :: r) (o :: outs) en=wb r outs (en.set i o):=rfl
theorem B4 (t:D) (r:List (D ⊕ Nat)) (o:Option D) (outs:En):wb (.inl t :: r) (o :: outs) en=wb r outs en:=rfl
theorem B3 (outs:En):wb [] outs en=en:=rfl
theorem B2 (g:List D→Option D):W (eN g fa en) Qe=W (fa en) (kN g Qe):=(av _ _ _).trans (congrArg _ (funext fun z=>(av _ _ _).trans (congrArg _ (funext fun y=>bh _ _ _))))
theorem B1 (g:List D→Option D) (as:List (D ⊕ Nat)):kN g Qe (as,en)=W (vals as) (kN2 g en Qe):=rfl
theorem B0 (g:List D→Option D):kN2 g en Qe ts=W (g ts) (dU en Qe):=rfl
theorem BZ:W (ba fa en) Qe=W (fa en) (Er Qe):=(av _ _ _).trans (congrArg _ (funext fun z=>av _ _ _))
theorem BY (as:List (D ⊕ Nat)):Er Qe (as,en)=W (vals as) (pN en Qe):=rfl
theorem BX:pN en Qe ts=(ts.length≤sizeLine∧Qe (.list ts,en)):=fW _ _ _
theorem BW:W (fT fa en) Qe=W (fa en) (El Qe):=(av _ _ _).trans (congrArg _ (funext fun z=>av _ _ _))
theorem BV (as:List (D ⊕ Nat)):El Qe (as,en)=W (vals as) (pI en Qe):=rfl
theorem BU:pI en Qe ts=(ts.length≤sizeLine∧Qe (.tuple ts,en)):=fW _ _ _
theorem BT:(([]:List D).length≤sizeLine)=True:=eq_true (Nat.le_trans (by show 0≤100; decide) aG)
theorem zq (x0:D):(([x0]:List D).length≤sizeLine)=True:=eq_true (Nat.le_trans (by show 1≤100; decide) aG)
theorem zp (x0 x1:D):(([x0,x1]:List D).length≤sizeLine)=True:=eq_true (Nat.le_trans (by show 2≤100; decide) aG)
theorem zo (x0 x1 x2:D):(([x0,x1,x2]:List D).length≤sizeLine)=True:=eq_true (Nat.le_trans (by show 3≤100; decide) aG)
theorem zn (x0 x1 x2 x3:D):(([x0,x1,x2,x3]:List D).length≤sizeLine)=True:=eq_true (Nat.le_trans (by show 4≤100; decide) aG)
theorem zm (x0 x1 x2 x3 x4:D):(([x0,x1,x2,x3,x4]:List D).length≤sizeLine)=True:=eq_true (Nat.le_trans (by show 5≤100; decide) aG)
theorem zh (x0 x1 x2 x3 x4 x5:D):(([x0,x1,x2,x3,x4,x5]:List D).length≤sizeLine)=True:=eq_true (Nat.le_trans (by show 6≤100; decide) aG)
theorem zg (x0 x1 x2 x3 x4 x5 x6:D):(([x0,x1,x2,x3,x4,x5,x6]:List D).length≤sizeLine)=True:=eq_true (Nat.le_trans (by show 7≤100; decide) aG)
theorem ze (x0 x1 x2 x3 x4 x5 x6 x7:D):(([x0,x1,x2,x3,x4,x5,x6,x7]:List D).length≤sizeLine)=True:=eq_true (Nat.le_trans (by show 8≤100; decide) aG)
theorem zd (x0 x1 x2 x3 x4 x5 x6 x7 x8:D):(([x0,x1,x2,x3,x4,x5,x6,x7,x8]:List D).length≤sizeLine)=True:=eq_true (Nat.le_trans (by show 9≤100; decide) aG)
theorem zc (x0 x1 x2 x3 x4 x5 x6 x7 x8 x9:D):(([x0,x1,x2,x3,x4,x5,x6,x7,x8,x9]:List D).length≤sizeLine)=True:=eq_true (Nat.le_trans (by show 10≤100; decide) aG)
theorem zb (x0 x1 x2 x3 x4 x5 x6 x7 x8 x9 x10:D):(([x0,x1,x2,x3,x4,x5,x6,x7,x8,x9,x10]:List D).length≤sizeLine)=True:=eq_true (Nat.le_trans (by show 11≤100; decide) aG)
theorem y9 (x0 x1 x2 x3 x4 x5 x6 x7 x8 x9 x10 x11:D):(([x0,x1,x2,x3,x4,x5,x6,x7,x8,x9,x10,x11]:List D).length≤sizeLine)=True:=eq_true (Nat.le_trans (by show 12≤100; decide) aG)
theorem y8 (x0 x1 x2 x3 x4 x5 x6 x7 x8 x9 x10 x11 x12:D):(([x0,x1,x2,x3,x4,x5,x6,x7,x8,x9,x10,x11,x12]:List D).length≤sizeLine)=True:=eq_true (Nat.le_trans (by show 13≤100; decide) aG)
theorem y6 (x0 x1 x2 x3 x4 x5 x6 x7 x8 x9 x10 x11 x12 x13:D):(([x0,x1,x2,x3,x4,x5,x6,x7,x8,x9,x10,x11,x12,x13]:List D).length≤sizeLine)=True:=eq_true (Nat.le_trans (by show 14≤100; decide) aG)
theorem y4 (F:List D→Option (D × En)):W (ar F fa en) Qe=W (fa en) (zN F Qe):=(av _ _ _).trans (congrArg _ (funext fun z=>(av _ _ _).trans (congrArg _ (funext fun y=>bh _ _ _))))
theorem y3 (F:List D→Option (D × En)) (as:List (D ⊕ Nat)):zN F Qe (as,en)=W (b8 as en) (nc F as en Qe):=rfl
theorem y2 (F:List D→Option (D × En)) (as:List (D ⊕ Nat)):nc F as en Qe ts=W (F ts) (nb as en Qe):=rfl
theorem yZ (as:List (D ⊕ Nat)) (t:D) (outs:En):nb as en Qe (t,outs)=Qe (t,wb as outs en):=rfl
theorem yY (q:Bool) (fi:MI) (js:List (Option Nat)):W (eLC q fi g c f js en) Qe=W (fi en) (kLC q g c f js Qe):=(av _ _ _).trans (congrArg _ (funext fun z=>bh _ _ _))
theorem yX (q:Bool) (js:List (Option Nat)):kLC q g c f js Qe (ts,en)=W (lcF g c f ts [] (bU js en)) (pP q js en Qe):=rfl
theorem yW (js:List (Option Nat)) (us:List D) (ex:En):pP true js en Qe (us,ex)=Qe (.list us,en):=rfl
theorem yV (js:List (Option Nat)) (us:List D) (ex:En):pP false js en Qe (us,ex)=Qe (.list us,wbB js ex en):=rfl
theorem yU:bU [] en=[]:=rfl
theorem yT (j:Nat) (js:List (Option Nat)):bU (some j :: js) en=gv en j :: bU js en:=rfl
theorem yS (js:List (Option Nat)):bU (none :: js) en=none :: bU js en:=rfl
theorem yR (j:Nat) (js:List (Option Nat)) (o:Option D) (ex:En):wbB (some j :: js) (o :: ex) en=wbB js ex (en.set j o):=rfl
theorem yQ (js:List (Option Nat)) (o:Option D) (ex:En):wbB (none :: js) (o :: ex) en=wbB js ex en:=rfl
theorem yP (ex:En):wbB [] ex en=en:=rfl
theorem yO:W (lcF g c f [] acc en) Ql=Ql (acc,en):=au _ _
theorem yN:W (bt f en) Ql=W (f en) (pT Ql):=av _ _ _
theorem yM:pT Ql (.list ts,en)=Ql (ts,en):=au _ _
theorem yL:pT Ql (.tuple ts,en)=Ql (ts,en):=au _ _
theorem yK (z:Str):pT Ql (.str z,en)=Ql (cH z,en):=au _ _
theorem yJ:W (bu fa en) Ql=W (fa en) (kR1 Ql):=av _ _ _
theorem yI (j:Int):kR1 Ql ([.inl (.int j)],en)=((-(2 ^ 62)≤j∧j < 2 ^ 62)∧Ql (fN 0 j.toNat,en)):=fW _ _ _
theorem yH:W (iA fa en) Ql=W (fa en) (kEn Ql):=av _ _ _
theorem yG:kEn Ql ([.inl (.list ts)],en)=Ql (de ts,en):=au _ _
theorem yF:kEn Ql ([.inl (.tuple ts)],en)=Ql (de ts,en):=au _ _
theorem yE:W (cC i f en) Qe=W (gv en i) (zK i f en Qe):=(av _ _ _).trans (congrArg _ (funext fun z=>av _ _ _))
theorem yD (x:D):zK i f en Qe x=W (f en) (j9 i Qe):=rfl
theorem yC (n:Int):j9 i Qe (.int n,en)=W (gv en i) (qW n en Qe):=by unfold j9 gv; cases h:(en[i]?).join with | none=>simp only [h,aZ] | some x=>simp only [h,au]; cases x <;> first | rfl | exact (au _ _).symm | (rw [au]; rfl) | (rw [au]; exact aZ _)
theorem yB (n:Int):qW n en Qe (.list ts)=W (atI ts n) (dU en Qe):=bh _ _ _
theorem yA:W (bZ i f en) Qe=W (gv en i) (Ew i f en Qe):=by unfold gv bZ; cases (en[i]?).join with | none=>rw [aZ,aZ] | some x=>cases x <;> first | rfl | exact (au _ _).symm | (rw [au]; rfl) | (rw [au]; exact aZ _)
theorem yz:Ew i f en Qe (.list ts)=W (f en) (pS i Qe):=av _ _ _
theorem yy (t:D):pS i Qe (t,en)=W (gv en i) (zP i t en Qe):=by unfold pS gv; cases h:(en[i]?).join with | none=>simp only [h,aZ] | some x=>simp only [h,au]; cases x <;> first | rfl | exact (au _ _).symm | (rw [au]; rfl) | (rw [au]; exact aZ _)
theorem yx (t:D):zP i t en Qe (.list ts)=(ts.length < sizeLine∧Qe (.none,en.set i (some (.list (ts++[t]))))):=fW _ _ _
theorem yw (Q:Option Int × En→Prop):W (iZ en) Q=Q (none,en):=au _ _
theorem yv (Q:Option Int × En→Prop):W (gE f en) Q=W (f en) (kOS Q):=av _ _ _
theorem yu (n:Int) (Q:Option Int × En→Prop):kOS Q (.int n,en)=Q (some n,en):=au _ _
theorem yt (g:D→Option Int→Option Int→Option D) (lo hi:MO):W (eSl g f lo hi en) Qe=W (f en) (kSl g lo hi Qe):=(av _ _ _).trans (congrArg _ (funext fun z=>(av _ _ _).trans (congrArg _ (funext fun y=>(av _ _ _).trans (congrArg _ (funext fun y=>bh _ _ _))))))
theorem yr (g:D→Option Int→Option Int→Option D) (lo hi:MO) (t:D):kSl g lo hi Qe (t,en)=W (lo en) (sU g t hi Qe):=rfl
theorem yq (g:D→Option Int→Option Int→Option D) (hi:MO) (t:D) (a:Option Int):sU g t hi Qe (a,en)=W (hi en) (sT g t a Qe):=rfl
theorem yo (g:D→Option Int→Option Int→Option D) (t:D) (a b:Option Int):sT g t a Qe (b,en)=W (g t a b) (dU en Qe):=rfl
theorem yn (g:Str→List D→Option D):W (eM g f fa en) Qe=W (f en) (kM g fa Qe):=av _ _ _
theorem ym (g:Str→List D→Option D) (z:Str):kM g fa Qe (.str z,en)=W (fa en) (kM1 g z Qe):=(av _ _ _).trans (congrArg _ (funext fun z=>(av _ _ _).trans (congrArg _ (funext fun y=>bh _ _ _))))
theorem yk (g:Str→List D→Option D) (z:Str) (as:List (D ⊕ Nat)):kM1 g z Qe (as,en)=W (vals as) (kM2 g z en Qe):=rfl
theorem yj (g:Str→List D→Option D) (z:Str):kM2 g z en Qe ts=W (g z ts) (dU en Qe):=rfl
theorem yi:W (bv i f en) Qe=W (gv en i) (kDg f i en Qe):=(av _ _ _).trans (congrArg _ (funext fun z=>av _ _ _))
theorem yh (x:D):kDg f i en Qe x=W (f en) (pQ i Qe):=rfl
theorem yg (q:D):pQ i Qe (q,en)=W (gv en i) (GI q en Qe):=by unfold pQ gv; cases h:(en[i]?).join with | none=>simp only [h,aZ] | some x=>simp only [h,au]; cases x <;> first | rfl | exact (au _ _).symm | (rw [au]; rfl) | (rw [au]; exact aZ _)
theorem yf (J:En→Prop):kIt J Qs (.nx en)=J en:=rfl
theorem ye (J:En→Prop):kIt J Qs (.ct en)=J en:=rfl
theorem yd (J:En→Prop) (t:D):kIt J Qs (.rt t en)=Qs (.rt t en):=rfl
theorem yc (b:MS) (J:En→Prop):kFg b J Qs en=W (b en) (kIt J Qs):=rfl
theorem yb (b:MS) (J:En→Prop):kWh b J Qs (true,en)=W (b en) (kIt J Qs):=rfl
theorem ya (b:MS) (J:En→Prop):kWh b J Qs (false,en)=Qs (.nx en):=rfl
theorem xZ (us:List D) (J:List D→En→Prop):Es c f us J en=W (c en) (pO f us J):=rfl
theorem xY (us:List D) (J:List D→En→Prop):pO f us J (true,en)=W (f en) (sW us J):=rfl
theorem xX (us:List D) (J:List D→En→Prop):pO f us J (false,en)=J us en:=rfl
theorem xW (us:List D) (J:List D→En→Prop) (t:D):sW us J (t,en)=J (us++[t]) en:=rfl
theorem xV (n:Nat) (dps:List Nat) (b:MS):W (fnF n dps b ts) Qe=W (b (ts.map some++List.replicate n none)) (kFn dps Qe):=av _ _ _
theorem xU (dps:List Nat) (t:D):kFn dps Qe (.rt t en)=Qe (t,msk dps en):=au _ _
theorem xT (dps:List Nat):kFn dps Qe (.nx en)=Qe (.none,msk dps en):=au _ _
theorem xS (d:Nat) (ds:List Nat) (o:Option D):msk ((d+1) :: ds) (o :: en)=o :: msk ds en:=rfl
theorem xR (ds:List Nat) (o:Option D):msk (0 :: ds) (o :: en)=none :: msk ds en:=rfl
theorem xQ:msk [] en=[]:=rfl
theorem xP (t:D):List.map some (t :: ts)=some t :: List.map some ts:=rfl
theorem xO:List.map (some:D→Option D) []=[]:=rfl
theorem xN (a:Option D) (l m:En):(a :: l)++m=a :: (l++m):=rfl
theorem xM (m:En):([]:En)++m=m:=rfl
theorem xL (a:Option D):List.replicate 0 a=[]:=rfl
theorem xK (a:Option D) (n:Nat):List.replicate (n+1) a=a :: List.replicate n a:=rfl
theorem xJ (a b:Int):aY (.int a) (.int b)=some (.int (a+b)):=rfl
theorem xI (a b:Str):W (aY (.str a) (.str b)) Qd=(a.length+b.length≤sizeLine∧Qd (.str (a++b))):=fW _ _ _
theorem xH (a b:Int):gA (.int a) (.int b)=some (.int (a - b)):=rfl
theorem xG (a b:Int):W (bE (.int a) (.int b)) Qd=(CMul a b∧Qd (.int (a * b))):=fW _ _ _
theorem xF (a b:Int):W (cg (.int a) (.int b)) Qd=(eQ a b∧Qd (.int (a / b))):=fW _ _ _
theorem xE (a b:Int):W (be (.int a) (.int b)) Qd=(0 < b∧Qd (.int (a % b))):=fW _ _ _
theorem xD (a b:Int):W (kT (.int a) (.int b)) Qd=(ic a b∧Qd (.int (a ^ b.toNat))):=fW _ _ _
theorem xC (a b:Int):ltI (.int a) (.int b)=some (.bool (decide (a < b))):=rfl
theorem xB (a b:Int):leI (.int a) (.int b)=some (.bool (decide (a≤b))):=rfl
theorem xA (a b:Int):gtI (.int a) (.int b)=some (.bool (decide (b < a))):=rfl
theorem xz (a b:Int):geI (.int a) (.int b)=some (.bool (decide (b≤a))):=rfl
theorem xy (a b:Int):eqD (.int a) (.int b)=some (.bool (decide (a=b))):=(Ft a b).trans (congrArg (fun q=>some (PyData.bool q)) (oO a b))
theorem xx (a b:Int):neD (.int a) (.int b)=some (.bool (!decide (a=b))):=(Eb a b).trans (congrArg (fun q=>some (PyData.bool (!q))) (oO a b))
theorem xw:isN .none .none=some (.bool true):=rfl
theorem xv:cV .none .none=some (.bool false):=rfl
theorem xu (x:Int):isN (.int x) .none=some (.bool false):=rfl
theorem xt (x:Int):cV (.int x) .none=some (.bool true):=rfl
theorem xr (x:Bool):isN (.bool x) .none=some (.bool false):=rfl
theorem xq (x:Bool):cV (.bool x) .none=some (.bool true):=rfl
theorem xo (x:Str):isN (.str x) .none=some (.bool false):=rfl
theorem xn (x:Str):cV (.str x) .none=some (.bool true):=rfl
theorem xm (x:List D):isN (.list x) .none=some (.bool false):=rfl
theorem xl (x:List D):cV (.list x) .none=some (.bool true):=rfl
theorem xk (x:List D):isN (.tuple x) .none=some (.bool false):=rfl
theorem xj (x:List D):cV (.tuple x) .none=some (.bool true):=rfl
theorem xi (x:List (D × D)):isN (.dict x) .none=some (.bool false):=rfl
theorem xh (x:List (D × D)):cV (.dict x) .none=some (.bool true):=rfl
theorem xg:aM "int" (.none)=some (.bool false):=congrArg (fun b=>some (PyData.bool b)) (show aO "NoneType" "int"=false by decide)
theorem xf:aM "bool" (.none)=some (.bool false):=congrArg (fun b=>some (PyData.bool b)) (show aO "NoneType" "bool"=false by decide)
theorem xc:aM "str" (.none)=some (.bool false):=congrArg (fun b=>some (PyData.bool b)) (show aO "NoneType" "str"=false by decide)
theorem xb:aM "list" (.none)=some (.bool false):=congrArg (fun b=>some (PyData.bool b)) (show aO "NoneType" "list"=false by decide)
theorem xa:aM "tuple" (.none)=some (.bool false):=congrArg (fun b=>some (PyData.bool b)) (show aO "NoneType" "tuple"=false by decide)
theorem w8:aM "dict" (.none)=some (.bool false):=congrArg (fun b=>some (PyData.bool b)) (show aO "NoneType" "dict"=false by decide)
theorem w6 (x:Int):aM "int" (.int x)=some (.bool true):=congrArg (fun b=>some (PyData.bool b)) (show aO "int" "int"=true by decide)
theorem w4 (x:Int):aM "bool" (.int x)=some (.bool false):=congrArg (fun b=>some (PyData.bool b)) (show aO "int" "bool"=false by decide)
theorem wZ (x:Int):aM "str" (.int x)=some (.bool false):=congrArg (fun b=>some (PyData.bool b)) (show aO "int" "str"=false by decide)
theorem wY (x:Int):aM "list" (.int x)=some (.bool false):=congrArg (fun b=>some (PyData.bool b)) (show aO "int" "list"=false by decide)
theorem wX (x:Int):aM "tuple" (.int x)=some (.bool false):=congrArg (fun b=>some (PyData.bool b)) (show aO "int" "tuple"=false by decide)
theorem wW (x:Int):aM "dict" (.int x)=some (.bool false):=congrArg (fun b=>some (PyData.bool b)) (show aO "int" "dict"=false by decide)
theorem wV (x:Bool):aM "int" (.bool x)=some (.bool true):=congrArg (fun b=>some (PyData.bool b)) (show aO "bool" "int"=true by decide)
theorem wU (x:Bool):aM "bool" (.bool x)=some (.bool true):=congrArg (fun b=>some (PyData.bool b)) (show aO "bool" "bool"=true by decide)
theorem wT (x:Bool):aM "str" (.bool x)=some (.bool false):=congrArg (fun b=>some (PyData.bool b)) (show aO "bool" "str"=false by decide)
theorem wS (x:Bool):aM "list" (.bool x)=some (.bool false):=congrArg (fun b=>some (PyData.bool b)) (show aO "bool" "list"=false by decide)
theorem wR (x:Bool):aM "tuple" (.bool x)=some (.bool false):=congrArg (fun b=>some (PyData.bool b)) (show aO "bool" "tuple"=false by decide)
theorem wQ (x:Bool):aM "dict" (.bool x)=some (.bool false):=congrArg (fun b=>some (PyData.bool b)) (show aO "bool" "dict"=false by decide)
theorem wP (x:Str):aM "int" (.str x)=some (.bool false):=congrArg (fun b=>some (PyData.bool b)) (show aO "str" "int"=false by decide)
theorem wO (x:Str):aM "bool" (.str x)=some (.bool false):=congrArg (fun b=>some (PyData.bool b)) (show aO "str" "bool"=false by decide)
theorem wN (x:Str):aM "str" (.str x)=some (.bool true):=congrArg (fun b=>some (PyData.bool b)) (show aO "str" "str"=true by decide)
theorem wM (x:Str):aM "list" (.str x)=some (.bool false):=congrArg (fun b=>some (PyData.bool b)) (show aO "str" "list"=false by decide)
theorem wL (x:Str):aM "tuple" (.str x)=some (.bool false):=congrArg (fun b=>some (PyData.bool b)) (show aO "str" "tuple"=false by decide)
theorem wK (x:Str):aM "dict" (.str x)=some (.bool false):=congrArg (fun b=>some (PyData.bool b)) (show aO "str" "dict"=false by decide)
theorem wJ (x:List D):aM "int" (.list x)=some (.bool false):=congrArg (fun b=>some (PyData.bool b)) (show aO "list" "int"=false by decide)
theorem wI (x:List D):aM "bool" (.list x)=some (.bool false):=congrArg (fun b=>some (PyData.bool b)) (show aO "list" "bool"=false by decide)
theorem wH (x:List D):aM "str" (.list x)=some (.bool false):=congrArg (fun b=>some (PyData.bool b)) (show aO "list" "str"=false by decide)
theorem wG (x:List D):aM "list" (.list x)=some (.bool true):=congrArg (fun b=>some (PyData.bool b)) (show aO "list" "list"=true by decide)
theorem wF (x:List D):aM "tuple" (.list x)=some (.bool false):=congrArg (fun b=>some (PyData.bool b)) (show aO "list" "tuple"=false by decide)
theorem wE (x:List D):aM "dict" (.list x)=some (.bool false):=congrArg (fun b=>some (PyData.bool b)) (show aO "list" "dict"=false by decide)
theorem wD (x:List D):aM "int" (.tuple x)=some (.bool false):=congrArg (fun b=>some (PyData.bool b)) (show aO "tuple" "int"=false by decide)
theorem wC (x:List D):aM "bool" (.tuple x)=some (.bool false):=congrArg (fun b=>some (PyData.bool b)) (show aO "tuple" "bool"=false by decide)
theorem wB (x:List D):aM "str" (.tuple x)=some (.bool false):=congrArg (fun b=>some (PyData.bool b)) (show aO "tuple" "str"=false by decide)
theorem wA (x:List D):aM "list" (.tuple x)=some (.bool false):=congrArg (fun b=>some (PyData.bool b)) (show aO "tuple" "list"=false by decide)
theorem wz (x:List D):aM "tuple" (.tuple x)=some (.bool true):=congrArg (fun b=>some (PyData.bool b)) (show aO "tuple" "tuple"=true by decide)
theorem wy (x:List D):aM "dict" (.tuple x)=some (.bool false):=congrArg (fun b=>some (PyData.bool b)) (show aO "tuple" "dict"=false by decide)
theorem wx (x:List (D × D)):aM "int" (.dict x)=some (.bool false):=congrArg (fun b=>some (PyData.bool b)) (show aO "dict" "int"=false by decide)
theorem ww (x:List (D × D)):aM "bool" (.dict x)=some (.bool false):=congrArg (fun b=>some (PyData.bool b)) (show aO "dict" "bool"=false by decide)
theorem wv (x:List (D × D)):aM "str" (.dict x)=some (.bool false):=congrArg (fun b=>some (PyData.bool b)) (show aO "dict" "str"=false by decide)
theorem wu (x:List (D × D)):aM "list" (.dict x)=some (.bool false):=congrArg (fun b=>some (PyData.bool b)) (show aO "dict" "list"=false by decide)
theorem wq (x:List (D × D)):aM "tuple" (.dict x)=some (.bool false):=congrArg (fun b=>some (PyData.bool b)) (show aO "dict" "tuple"=false by decide)
theorem wp (x:List (D × D)):aM "dict" (.dict x)=some (.bool true):=congrArg (fun b=>some (PyData.bool b)) (show aO "dict" "dict"=true by decide)
theorem wo:((([]:List D).length:Nat):Int)=0:=rfl
theorem wn (x0:D):((([x0]:List D).length:Nat):Int)=1:=rfl
theorem wm (x0 x1:D):((([x0,x1]:List D).length:Nat):Int)=2:=rfl
theorem wl (x0 x1 x2:D):((([x0,x1,x2]:List D).length:Nat):Int)=3:=rfl
theorem wj (x0 x1 x2 x3:D):((([x0,x1,x2,x3]:List D).length:Nat):Int)=4:=rfl
theorem wg (x0 x1 x2 x3 x4:D):((([x0,x1,x2,x3,x4]:List D).length:Nat):Int)=5:=rfl
theorem wf (x0 x1 x2 x3 x4 x5:D):((([x0,x1,x2,x3,x4,x5]:List D).length:Nat):Int)=6:=rfl
theorem we (x0 x1 x2 x3 x4 x5 x6:D):((([x0,x1,x2,x3,x4,x5,x6]:List D).length:Nat):Int)=7:=rfl
theorem wd (x0 x1 x2 x3 x4 x5 x6 x7:D):((([x0,x1,x2,x3,x4,x5,x6,x7]:List D).length:Nat):Int)=8:=rfl
theorem wc (x0 x1 x2 x3 x4 x5 x6 x7 x8:D):((([x0,x1,x2,x3,x4,x5,x6,x7,x8]:List D).length:Nat):Int)=9:=rfl
theorem wa (x0 x1 x2 x3 x4 x5 x6 x7 x8 x9:D):((([x0,x1,x2,x3,x4,x5,x6,x7,x8,x9]:List D).length:Nat):Int)=10:=rfl
theorem v9 (x0 x1 x2 x3 x4 x5 x6 x7 x8 x9 x10:D):((([x0,x1,x2,x3,x4,x5,x6,x7,x8,x9,x10]:List D).length:Nat):Int)=11:=rfl
theorem v8 (x0 x1 x2 x3 x4 x5 x6 x7 x8 x9 x10 x11:D):((([x0,x1,x2,x3,x4,x5,x6,x7,x8,x9,x10,x11]:List D).length:Nat):Int)=12:=rfl
theorem v7 (x0 x1 x2 x3 x4 x5 x6 x7 x8 x9 x10 x11 x12:D):((([x0,x1,x2,x3,x4,x5,x6,x7,x8,x9,x10,x11,x12]:List D).length:Nat):Int)=13:=rfl
theorem v6 (x0 x1 x2 x3 x4 x5 x6 x7 x8 x9 x10 x11 x12 x13:D):((([x0,x1,x2,x3,x4,x5,x6,x7,x8,x9,x10,x11,x12,x13]:List D).length:Nat):Int)=14:=rfl
theorem v5 (α β:Type) (f:α→β) (l:List α):(l.map f).length=l.length:=List.length_map f
theorem v3:br [.list ts]=some (.int ts.length):=rfl
theorem v1:br [.tuple ts]=some (.int ts.length):=rfl
theorem vZ (z:Str):W (br [.str z]) Qd=(z.length≤sizeLine∧Qd (.int z.length)):=p9 _ _ _
theorem vY (a:Int):gY [.int a]=some (.int (if a < 0 then -a else a)):=rfl
theorem vX (a b:Int):pE [.int a,.int b]=some (.int (if b > a then b else a)):=rfl
theorem vW (a b:Int):pC [.int a,.int b]=some (.int (if b < a then b else a)):=rfl
theorem vV (a:Int):gK [.int a]=some (.int a):=rfl
theorem vU:gK [.bool true]=some (.int 1):=rfl
theorem vT:gK [.bool false]=some (.int 0):=rfl
theorem vS (a:Int):kX (.int a)=some (.int (-a)):=rfl
theorem vR:fH [.list ts]=some (.list ts):=rfl
theorem vQ:pi [.list ts]=some (.tuple ts):=rfl
theorem vP (n:Int):ixA (.list ts) (.int n)=atI ts n:=rfl
theorem vO:fH [.tuple ts]=some (.list ts):=rfl
theorem vN:pi [.tuple ts]=some (.tuple ts):=rfl
theorem vM (n:Int):ixA (.tuple ts) (.int n)=atI ts n:=rfl
theorem vL (ts us:List D):W (ly (.list ts) (.list us)) Qd=(ts.length+us.length≤sizeLine∧Qd (.list (ts++us))):=fW _ _ _
theorem vK (lo hi:Option Int):kt (.list ts) lo hi=some (.list (dL ts lo hi)):=rfl
theorem vJ:atI ts 0=ts[0]?:=aW ts _
theorem vI:atI ts 1=ts[1]?:=aW ts _
theorem vH:atI ts 2=ts[2]?:=aW ts _
theorem vG:atI ts 3=ts[3]?:=aW ts _
theorem vF:atI ts 4=ts[4]?:=aW ts _
theorem vD:atI ts 5=ts[5]?:=aW ts _
theorem vC:atI ts 6=ts[6]?:=aW ts _
theorem vB:atI ts 7=ts[7]?:=aW ts _
theorem vA:atI ts 8=ts[8]?:=aW ts _
theorem vz:atI ts 9=ts[9]?:=aW ts _
theorem vy:atI ts 10=ts[10]?:=aW ts _
theorem vx:atI ts 11=ts[11]?:=aW ts _
theorem vw:atI ts 12=ts[12]?:=aW ts _
theorem vv:atI ts 13=ts[13]?:=aW ts _
theorem vt:atI ts 14=ts[14]?:=aW ts _
theorem vq:atI ts 15=ts[15]?:=aW ts _
theorem vp:atI ts 16=ts[16]?:=aW ts _
theorem vo:atI ts 17=ts[17]?:=aW ts _
theorem vn:atI ts 18=ts[18]?:=aW ts _
theorem vm:atI ts 19=ts[19]?:=aW ts _
theorem vk:atI ts 20=ts[20]?:=aW ts _
theorem vj (t:D):(t :: ts)[0]?=some t:=rfl
theorem vi (t:D):(t :: ts)[i+1]?=ts[i]?:=List.getElem?_cons_succ
theorem vh:W (fq i f en) Qe=W (gv en i) (Ep i f en Qe):=by unfold gv fq; cases (en[i]?).join with | none=>rw [aZ,aZ] | some x=>cases x <;> first | rfl | exact (au _ _).symm | (rw [au]; rfl) | (rw [au]; exact aZ _)
theorem vg:Ep i f en Qe (.list ts)=W (f en) (pM i Qe):=av _ _ _
theorem vf (n:Int):pM i Qe (.int n,en)=W (gv en i) (pL i n en Qe):=by unfold pM gv; cases h:(en[i]?).join with | none=>simp only [h,aZ] | some x=>simp only [h,au]; cases x <;> first | rfl | exact (au _ _).symm | (rw [au]; rfl) | (rw [au]; exact aZ _)
theorem ve (n:Int):pL i n en Qe (.list ts)=((-(2 ^ 63)≤n∧n < 2 ^ 63)∧W (pr ts n) (zL i en Qe)):=by unfold pL pr; dsimp only; rw [p8]; congr 1; rw [av,av]; congr 1; funext k; rw [bh,bh]; rfl
theorem vd (t:D) (us:List D):zL i en Qe (t,us)=Qe (t,en.set i (some (.list us))):=rfl
theorem vc (z:Str) (n:Int):W (ixT (.str z) (.int n)) Qd=(z.length≤sizeLine∧W (atI (li z) n) (kS1 Qd)):=by show W (if _ then _ else _) _=_; rw [p8,bh]; rfl
theorem vb (c:Nat):kS1 Qd c=Qd (.str (mk1 c)):=rfl
theorem va (a b:Str):tm (.str a) (.str b)=some (.bool (gm b a)):=rfl
theorem u9 (a b:Bool):eqD (.bool a) (.bool b)=some (.bool (a == b)):=Bx a b
theorem u8 (a b:Bool):neD (.bool a) (.bool b)=some (.bool (!(a == b))):=AF a b
theorem u7 (a b:Str):eqD (.str a) (.str b)=some (.bool (decide (a=b))):=Fq a b
theorem u6 (a b:Str):neD (.str a) (.str b)=some (.bool (!decide (a=b))):=D9 a b
theorem u5:neD (.list []) (.list [])=some (.bool false):=Ea
theorem u4:eqD (.list []) (.list [])=some (.bool true):=Fs
theorem u3 (a:Bool):(a == a)=true:=beq_self_eq_true a
theorem u0:(true == false)=false:=rfl
theorem uZ:(false == true)=false:=rfl
theorem uY (t:D) (ts acc:List D):W (lcF g c f (t :: ts) acc en) Ql=W (g t en) (kL1 g c f ts acc Ql):=by unfold lcF; rw [av]; congr 1; funext z; rw [av]; rfl
theorem uX (ts acc:List D):kL1 g c f ts acc Ql en=W (c en) (kL2 g c f ts acc Ql):=rfl
theorem uW (ts acc:List D):kL2 g c f ts acc Ql (true,en)=W (f en) (kL3 g c f ts acc Ql):=av _ _ _
theorem uV (ts acc:List D):kL2 g c f ts acc Ql (false,en)=W (lcF g c f ts acc en) Ql:=rfl
theorem uU (ts acc:List D) (t:D):kL3 g c f ts acc Ql (t,en)=(acc.length < sizeLine∧W (lcF g c f ts (acc++[t]) en) Ql):=p8 _ _ _
theorem uT (m:List D):([]++m:List D)=m:=rfl
theorem uS (x:D) (l m:List D):((x :: l)++m:List D)=x :: (l++m):=rfl
theorem uR:(([]:List D).length < sizeLine)=True:=eq_true (Nat.lt_of_lt_of_le (by show 0 < 100; decide) aG)
theorem uQ (x0:D):(([x0]:List D).length < sizeLine)=True:=eq_true (Nat.lt_of_lt_of_le (by show 1 < 100; decide) aG)
theorem uP (x0 x1:D):(([x0,x1]:List D).length < sizeLine)=True:=eq_true (Nat.lt_of_lt_of_le (by show 2 < 100; decide) aG)
theorem uO (x0 x1 x2:D):(([x0,x1,x2]:List D).length < sizeLine)=True:=eq_true (Nat.lt_of_lt_of_le (by show 3 < 100; decide) aG)
theorem uN (x0 x1 x2 x3:D):(([x0,x1,x2,x3]:List D).length < sizeLine)=True:=eq_true (Nat.lt_of_lt_of_le (by show 4 < 100; decide) aG)
theorem uM (x0 x1 x2 x3 x4:D):(([x0,x1,x2,x3,x4]:List D).length < sizeLine)=True:=eq_true (Nat.lt_of_lt_of_le (by show 5 < 100; decide) aG)
theorem uL (x0 x1 x2 x3 x4 x5:D):(([x0,x1,x2,x3,x4,x5]:List D).length < sizeLine)=True:=eq_true (Nat.lt_of_lt_of_le (by show 6 < 100; decide) aG)
theorem uK (x0 x1 x2 x3 x4 x5 x6:D):(([x0,x1,x2,x3,x4,x5,x6]:List D).length < sizeLine)=True:=eq_true (Nat.lt_of_lt_of_le (by show 7 < 100; decide) aG)
theorem uJ (x0 x1 x2 x3 x4 x5 x6 x7:D):(([x0,x1,x2,x3,x4,x5,x6,x7]:List D).length < sizeLine)=True:=eq_true (Nat.lt_of_lt_of_le (by show 8 < 100; decide) aG)
theorem uI (x0 x1 x2 x3 x4 x5 x6 x7 x8:D):(([x0,x1,x2,x3,x4,x5,x6,x7,x8]:List D).length < sizeLine)=True:=eq_true (Nat.lt_of_lt_of_le (by show 9 < 100; decide) aG)
theorem uH (x0 x1 x2 x3 x4 x5 x6 x7 x8 x9:D):(([x0,x1,x2,x3,x4,x5,x6,x7,x8,x9]:List D).length < sizeLine)=True:=eq_true (Nat.lt_of_lt_of_le (by show 10 < 100; decide) aG)
theorem uG (x0 x1 x2 x3 x4 x5 x6 x7 x8 x9 x10:D):(([x0,x1,x2,x3,x4,x5,x6,x7,x8,x9,x10]:List D).length < sizeLine)=True:=eq_true (Nat.lt_of_lt_of_le (by show 11 < 100; decide) aG)
theorem uF (x0 x1 x2 x3 x4 x5 x6 x7 x8 x9 x10 x11:D):(([x0,x1,x2,x3,x4,x5,x6,x7,x8,x9,x10,x11]:List D).length < sizeLine)=True:=eq_true (Nat.lt_of_lt_of_le (by show 12 < 100; decide) aG)
theorem uE (x0 x1 x2 x3 x4 x5 x6 x7 x8 x9 x10 x11 x12:D):(([x0,x1,x2,x3,x4,x5,x6,x7,x8,x9,x10,x11,x12]:List D).length < sizeLine)=True:=eq_true (Nat.lt_of_lt_of_le (by show 13 < 100; decide) aG)
theorem uD (x0 x1 x2 x3 x4 x5 x6 x7 x8 x9 x10 x11 x12 x13:D):(([x0,x1,x2,x3,x4,x5,x6,x7,x8,x9,x10,x11,x12,x13]:List D).length < sizeLine)=True:=eq_true (Nat.lt_of_lt_of_le (by show 14 < 100; decide) aG)
theorem uC:lx [.list []]=some (.bool true):=rfl
theorem uB (a:Bool):lx [.list [.bool a]]=some (.bool a):=by cases a <;> rfl
theorem uA (a b:Bool):lx [.list [.bool a,.bool b]]=some (.bool (a && b)):=by cases a <;> cases b <;> rfl
theorem uz:fK [.list []]=some (.int 0):=rfl
theorem uy (a:Int):fK [.list [.int a]]=some (.int a):=by show some (PyData.int (a+0))=_; rw [Int.add_zero]
theorem ux (a b:Int):fK [.list [.int a,.int b]]=some (.int (a+b)):=by show some (PyData.int (a+(b+0)))=_; rw [Int.add_zero]
theorem uw (x:D) (l:List D):dL (x :: l) (some 1) none=l:=Bz x l
theorem uv (x:D) (l:List D):(HT.sIx (x :: l).length 0 (some 1)=0)=False:=Gu x l
theorem uu (p:Prop):(False∧p)=False:=false_and p
theorem ut:(¬ False)=True:=not_false_eq_true
theorem ur:(!true)=false:=rfl
theorem uq:(!false)=true:=rfl
theorem up (p:Prop):(True∧p)=p:=true_and p
theorem uo (p:Prop):(p∧True)=p:=and_true p
theorem um (_:Decidable True):decide True=true:=decide_eq_true trivial
theorem ul (_:Decidable False):decide False=false:=decide_eq_false (fun z=>z)
theorem uk (α:Sort 1) (a:α):(a=a)=True:=eq_self a
end
theorem BS:type_of% ws0∧type_of% ws1∧type_of% ws2∧type_of% ws3∧type_of% ws4∧type_of% ws5∧type_of% ws6∧type_of% ws7∧type_of% ws8∧type_of% ws9∧type_of% Ds∧type_of% Dr∧type_of% Dq∧type_of% Dp∧type_of% Do∧type_of% Dm∧type_of% Dl∧type_of% Dk∧type_of% Dj∧type_of% Di∧type_of% Dh∧type_of% Dg∧type_of% De∧type_of% Dd∧type_of% Dc∧type_of% Db∧type_of% Da∧type_of% C9∧type_of% C8∧type_of% C7∧type_of% C6∧type_of% C5∧type_of% C4∧type_of% C3∧type_of% C2∧type_of% C1∧type_of% CZ∧type_of% CY∧type_of% CW∧type_of% CV:=⟨ws0,ws1,ws2,ws3,ws4,ws5,ws6,ws7,ws8,ws9,Ds,Dr,Dq,Dp,Do,Dm,Dl,Dk,Dj,Di,Dh,Dg,De,Dd,Dc,Db,Da,C9,C8,C7,C6,C5,C4,C3,C2,C1,CZ,CY,CW,CV⟩
theorem BR:type_of% CU∧type_of% CT∧type_of% CQ∧type_of% CP∧type_of% CO∧type_of% CN∧type_of% CM∧type_of% CL∧type_of% CK∧type_of% CJ∧type_of% CI∧type_of% CH∧type_of% CG∧type_of% CF∧type_of% CD∧type_of% CC∧type_of% CB∧type_of% CA∧type_of% Cz∧type_of% Cy∧type_of% Cw∧type_of% Cv∧type_of% Cu∧type_of% Ct∧type_of% Cs∧type_of% Cr∧type_of% Cq∧type_of% Cp∧type_of% Co∧type_of% Cn∧type_of% Cm∧type_of% Cl∧type_of% Ck∧type_of% Cj∧type_of% Ci∧type_of% Ch∧type_of% Cg∧type_of% Cf∧type_of% Ce∧type_of% Cd:=⟨CU,CT,CQ,CP,CO,CN,CM,CL,CK,CJ,CI,CH,CG,CF,CD,CC,CB,CA,Cz,Cy,Cw,Cv,Cu,Ct,Cs,Cr,Cq,Cp,Co,Cn,Cm,Cl,Ck,Cj,Ci,Ch,Cg,Cf,Ce,Cd⟩
theorem BQ:type_of% Cc∧type_of% Cb∧type_of% Ca∧type_of% B9∧type_of% B8∧type_of% B7∧type_of% B6∧type_of% B5∧type_of% B4∧type_of% B3∧type_of% B2∧type_of% B1∧type_of% B0∧type_of% BZ∧type_of% BY∧type_of% BX∧type_of% BW∧type_of% BV∧type_of% BU∧type_of% BT∧type_of% zq∧type_of% zp∧type_of% zo∧type_of% zn∧type_of% zm∧type_of% zh∧type_of% zg∧type_of% ze∧type_of% zd∧type_of% zc∧type_of% zb∧type_of% y9∧type_of% y8∧type_of% y6∧type_of% y4∧type_of% y3∧type_of% y2∧type_of% yZ∧type_of% yY∧type_of% yX:=⟨Cc,Cb,Ca,B9,B8,B7,B6,B5,B4,B3,B2,B1,B0,BZ,BY,BX,BW,BV,BU,BT,zq,zp,zo,zn,zm,zh,zg,ze,zd,zc,zb,y9,y8,y6,y4,y3,y2,yZ,yY,yX⟩
theorem BP:type_of% yW∧type_of% yV∧type_of% yU∧type_of% yT∧type_of% yS∧type_of% yR∧type_of% yQ∧type_of% yP∧type_of% yO∧type_of% yN∧type_of% yM∧type_of% yL∧type_of% yK∧type_of% yJ∧type_of% yI∧type_of% yH∧type_of% yG∧type_of% yF∧type_of% yE∧type_of% yD∧type_of% yC∧type_of% yB∧type_of% yA∧type_of% yz∧type_of% yy∧type_of% yx∧type_of% yw∧type_of% yv∧type_of% yu∧type_of% yt∧type_of% yr∧type_of% yq∧type_of% yo∧type_of% yn∧type_of% ym∧type_of% yk∧type_of% yj∧type_of% yi∧type_of% yh∧type_of% yg:=⟨yW,yV,yU,yT,yS,yR,yQ,yP,yO,yN,yM,yL,yK,yJ,yI,yH,yG,yF,yE,yD,yC,yB,yA,yz,yy,yx,yw,yv,yu,yt,yr,yq,yo,yn,ym,yk,yj,yi,yh,yg⟩
theorem BO:type_of% yf∧type_of% ye∧type_of% yd∧type_of% yc∧type_of% yb∧type_of% ya∧type_of% xZ∧type_of% xY∧type_of% xX∧type_of% xW∧type_of% xV∧type_of% xU∧type_of% xT∧type_of% xS∧type_of% xR∧type_of% xQ∧type_of% xP∧type_of% xO∧type_of% xN∧type_of% xM∧type_of% xL∧type_of% xK∧type_of% xJ∧type_of% xI∧type_of% xH∧type_of% xG∧type_of% xF∧type_of% xE∧type_of% xD∧type_of% xC∧type_of% xB∧type_of% xA∧type_of% xz∧type_of% xy∧type_of% xx∧type_of% xw∧type_of% xv∧type_of% xu∧type_of% xt∧type_of% xr:=⟨yf,ye,yd,yc,yb,ya,xZ,xY,xX,xW,xV,xU,xT,xS,xR,xQ,xP,xO,xN,xM,xL,xK,xJ,xI,xH,xG,xF,xE,xD,xC,xB,xA,xz,xy,xx,xw,xv,xu,xt,xr⟩
theorem BN:type_of% xq∧type_of% xo∧type_of% xn∧type_of% xm∧type_of% xl∧type_of% xk∧type_of% xj∧type_of% xi∧type_of% xh∧type_of% xg∧type_of% xf∧type_of% xc∧type_of% xb∧type_of% xa∧type_of% w8∧type_of% w6∧type_of% w4∧type_of% wZ∧type_of% wY∧type_of% wX∧type_of% wW∧type_of% wV∧type_of% wU∧type_of% wT∧type_of% wS∧type_of% wR∧type_of% wQ∧type_of% wP∧type_of% wO∧type_of% wN∧type_of% wM∧type_of% wL∧type_of% wK∧type_of% wJ∧type_of% wI∧type_of% wH∧type_of% wG∧type_of% wF∧type_of% wE∧type_of% wD:=⟨xq,xo,xn,xm,xl,xk,xj,xi,xh,xg,xf,xc,xb,xa,w8,w6,w4,wZ,wY,wX,wW,wV,wU,wT,wS,wR,wQ,wP,wO,wN,wM,wL,wK,wJ,wI,wH,wG,wF,wE,wD⟩
theorem BM:type_of% wC∧type_of% wB∧type_of% wA∧type_of% wz∧type_of% wy∧type_of% wx∧type_of% ww∧type_of% wv∧type_of% wu∧type_of% wq∧type_of% wp∧type_of% wo∧type_of% wn∧type_of% wm∧type_of% wl∧type_of% wj∧type_of% wg∧type_of% wf∧type_of% we∧type_of% wd∧type_of% wc∧type_of% wa∧type_of% v9∧type_of% v8∧type_of% v7∧type_of% v6∧type_of% v5∧type_of% v3∧type_of% v1∧type_of% vZ∧type_of% vY∧type_of% vX∧type_of% vW∧type_of% vV∧type_of% vU∧type_of% vT∧type_of% vS∧type_of% vR∧type_of% vQ∧type_of% vP:=⟨wC,wB,wA,wz,wy,wx,ww,wv,wu,wq,wp,wo,wn,wm,wl,wj,wg,wf,we,wd,wc,wa,v9,v8,v7,v6,v5,v3,v1,vZ,vY,vX,vW,vV,vU,vT,vS,vR,vQ,vP⟩
theorem BL:type_of% vO∧type_of% vN∧type_of% vM∧type_of% vL∧type_of% vK∧type_of% vJ∧type_of% vI∧type_of% vH∧type_of% vG∧type_of% vF∧type_of% vD∧type_of% vC∧type_of% vB∧type_of% vA∧type_of% vz∧type_of% vy∧type_of% vx∧type_of% vw∧type_of% vv∧type_of% vt∧type_of% vq∧type_of% vp∧type_of% vo∧type_of% vn∧type_of% vm∧type_of% vk∧type_of% vj∧type_of% vi∧type_of% vh∧type_of% vg∧type_of% vf∧type_of% ve∧type_of% vd∧type_of% vc∧type_of% vb∧type_of% va∧type_of% u9∧type_of% u8∧type_of% u7∧type_of% u6:=⟨vO,vN,vM,vL,vK,vJ,vI,vH,vG,vF,vD,vC,vB,vA,vz,vy,vx,vw,vv,vt,vq,vp,vo,vn,vm,vk,vj,vi,vh,vg,vf,ve,vd,vc,vb,va,u9,u8,u7,u6⟩
theorem BK:type_of% u5∧type_of% u4∧type_of% u3∧type_of% u0∧type_of% uZ∧type_of% uY∧type_of% uX∧type_of% uW∧type_of% uV∧type_of% uU∧type_of% uT∧type_of% uS∧type_of% uR∧type_of% uQ∧type_of% uP∧type_of% uO∧type_of% uN∧type_of% uM∧type_of% uL∧type_of% uK∧type_of% uJ∧type_of% uI∧type_of% uH∧type_of% uG∧type_of% uF∧type_of% uE∧type_of% uD∧type_of% uC∧type_of% uB∧type_of% uA∧type_of% uz∧type_of% uy∧type_of% ux∧type_of% uw∧type_of% uv∧type_of% uu∧type_of% ut∧type_of% ur∧type_of% uq∧type_of% up:=⟨u5,u4,u3,u0,uZ,uY,uX,uW,uV,uU,uT,uS,uR,uQ,uP,uO,uN,uM,uL,uK,uJ,uI,uH,uG,uF,uE,uD,uC,uB,uA,uz,uy,ux,uw,uv,uu,ut,ur,uq,up⟩
theorem BJ:type_of% uo∧type_of% um∧type_of% ul∧type_of% uk:=⟨uo,um,ul,uk⟩
theorem ws:type_of% BS∧type_of% BR∧type_of% BQ∧type_of% BP∧type_of% BO∧type_of% BN∧type_of% BM∧type_of% BL∧type_of% BK∧type_of% BJ:=⟨BS,BR,BQ,BP,BO,BN,BM,BL,BK,BJ⟩
end L2
namespace L2
open PySem PySem.Spec PyProof.Rows
theorem jd {g:MG} {b:MS} {ts:List D} {en:En} {Q:Fl→Prop} (I:Nat→En→Prop) (h0:I 0 en)
  (hs:∀ i t en,ts[i]?=some t→I i en→W (g t en) (kFg b (I (i+1)) Q)) (hq:∀ en,I ts.length en→Q (.nx en)):W (cf g b ts en) Q:=by
 suffices ∀ (us:List D) (i:Nat) (en:En),ts.drop i=us→i≤ts.length→I i en→W (cf g b us en) Q from this ts 0 en rfl (Nat.zero_le _) h0
 intro us
 induction us with
 | nil =>
  intro i en hu hi h
  have:ts.length - i=0:=by rw [← List.length_drop,hu]; rfl
  simp only [ws]
  exact hq en (by rw [show ts.length=i by omega]; exact h)
 | cons t us ih =>
  intro i en hu hi h
  have ht:ts[i]?=some t:=by
   have:(ts.drop i)[0]?=some t:=by rw [hu]; rfl
   rw [List.getElem?_drop] at this
   exact this
  have hl:i < ts.length:=(List.getElem?_eq_some_iff.mp ht).1
  have hd:ts.drop (i+1)=us:=by rw [← List.drop_drop,hu]; rfl
  simp only [ws]
  refine (hs i t en ht h).use fun en1 h1=>?_
  simp only [ws] at h1 ⊢
  refine h1.use fun fl h2=>?_
  cases fl with
  | nx e=>simp only [ws] at h2 ⊢; exact ih (i+1) e hd hl h2
  | ct e=>simp only [ws] at h2 ⊢; exact ih (i+1) e hd hl h2
  | rt t e=>simp only [ws] at h2 ⊢; exact h2
theorem GQ {g:MG} {c:MT} {f:ME} {ts:List D} {en:En} {Q:List D × En→Prop} (I:Nat→List D→En→Prop) (hz:ts.length≤sizeLine) (h0:I 0 [] en)
  (hs:∀ i t us en,ts[i]?=some t→us.length≤i→I i us en→W (g t en) (Es c f us (I (i+1)))) (hq:∀ us en,us.length≤ts.length→I ts.length us en→Q (us,en)):W (lcF g c f ts [] en) Q:=by
 suffices ∀ (vs:List D) (i:Nat) (us:List D) (en:En),ts.drop i=vs→i≤ts.length→us.length≤i→I i us en→W (lcF g c f vs us en) Q from this ts 0 [] en rfl (Nat.zero_le _) (Nat.zero_le _) h0
 intro vs
 induction vs with
 | nil =>
  intro i us en hu hi hl h
  have:ts.length - i=0:=by rw [← List.length_drop,hu]; rfl
  simp only [ws]
  exact hq us en (by omega) (by rw [show ts.length=i by omega]; exact h)
 | cons t vs ih =>
  intro i us en hu hi hl h
  have ht:ts[i]?=some t:=by
   have:(ts.drop i)[0]?=some t:=by rw [hu]; rfl
   rw [List.getElem?_drop] at this
   exact this
  have hlt:i < ts.length:=(List.getElem?_eq_some_iff.mp ht).1
  have hd:ts.drop (i+1)=vs:=by rw [← List.drop_drop,hu]; rfl
  unfold lcF
  rw [av]
  refine (hs i t us en ht hl h).use fun en1 h1=>?_
  simp only [ws] at h1
  rw [av]
  refine h1.use fun r h2=>?_
  obtain ⟨x,en2⟩:=r
  cases x with
  | true =>
   simp only [ws] at h2
   show W ((f en2).bind _) Q
   rw [av]
   refine h2.use fun q h3=>?_
   obtain ⟨u,en3⟩:=q
   simp only [ws] at h3
   show W (if us.length < sizeLine then _ else _) Q
   rw [if_pos (by omega)]
   exact ih (i+1) _ _ hd hlt (by rw [List.length_append]; show _+1≤_; omega) h3
  | false =>
   simp only [ws] at h2
   exact ih (i+1) _ _ hd hlt (by omega) h2
theorem BG {c:MT} {b:MS} {en:En} {Q:Fl→Prop} (I:Nat→En→Prop) (hs:∀ n en,I n en→W (c en) (kWh b (fun e=>∃ m,m < n∧I m e) Q)) {n:Nat} (h0:I n en):W (bG c b en) Q:=by
 induction n using Nat.strongRecOn generalizing en with
 | _ n ih =>
  obtain ⟨⟨x,en1⟩,e1,h1⟩:=(hs n en h0).ex
  cases x with
  | false=>simp only [ws] at h1; exact W.of (jj e1) h1
  | true =>
   simp only [ws] at h1
   obtain ⟨fl,e2,h2⟩:=h1.ex
   cases fl with
   | nx e =>
    obtain ⟨m,hm,hi⟩:∃ m,m < n∧I m e:=h2
    obtain ⟨fl,e3,h3⟩:=(ih m hm hi).ex
    exact W.of (jk e1 e2 e3) h3
   | ct e =>
    obtain ⟨m,hm,hi⟩:∃ m,m < n∧I m e:=h2
    obtain ⟨fl,e3,h3⟩:=(ih m hm hi).ex
    obtain ⟨k,h4⟩:=fM e3
    refine W.of (fG (n:=k+1) ?_) h3
    unfold whN
    rw [e1]
    show (b en1).bind _=_
    rw [e2]
    exact h4
   | rt t e =>
    refine W.of (fG (n:=1) ?_) (show Q (.rt t e) from h2)
    unfold whN
    rw [e1]
    show (b en1).bind _=_
    rw [e2]
    rfl
theorem ft {f:ME} {ts:List D} {o:Option D} {rest:En} {Q:List D × En→Prop} (F:D→D) (hz:ts.length≤sizeLine) (hf:∀ t∈ts,W (f (some t :: rest)) (fun r=>r=(F t,some t :: rest))) (hq:∀ o',Q (ts.map F,o' :: rest)):W (lcF (gN 0) cY f ts [] (o :: rest)) Q:=by
 obtain ⟨o',e⟩:=i4 (f:=f) (F:=F) (rest:=rest) ts [] o (fun t ht=>by
  obtain ⟨r,e,h⟩:=(hf t ht).ex
  rw [e,h]) (by simpa using hz)
 exact W.of e (hq o')
theorem er {α:Type} {ts:List α} {i:Nat} {t:α} (h:ts[i]?=some t):ts.take (i+1)=ts.take i++[t]:=by
 rw [List.take_add_one,h]; rfl
theorem kR {i:Int} {n k:Nat} {t:D} (h:(fN i n)[k]?=some t):k < n∧t=.int (i+(k:Nat)):=by
 unfold fN at h
 rw [List.getElem?_map] at h
 obtain ⟨j,hj,rfl⟩:=Option.map_eq_some_iff.mp h
 obtain ⟨hl,e⟩:=List.getElem?_eq_some_iff.mp hj
 rw [List.getElem_range] at e
 rw [List.length_range] at hl
 exact ⟨hl,by rw [e]⟩
theorem gi (i:Int) (n:Nat):(fN i n).length=n:=by unfold fN; rw [List.length_map,List.length_range]
theorem sz {n:Nat} (h:n≤1000):n≤sizeLine:=Nat.le_trans h Pen3.sl1000
theorem szl {n:Nat} (h:n < 1000):n < sizeLine:=Nat.lt_of_lt_of_le h Pen3.sl1000
theorem nJ {p:D} {m:Int} (hp:Pen3.IsPen p) (h3:0 < m) (h4:m < 1073741824) {Q:D × En→Prop} (h:∀ r p',0≤r→r < m→Pen3.IsPen p'→Q (.int r,[some p',none])):W (Pen3.F_law_draw [p,.int m]) Q:=by
 obtain ⟨r,p',e,h1,h2,h5⟩:=Pen3.draw_ok hp h3 h4
 exact W.of e (h r p' h1 h2 h5)
end L2
set_option maxHeartbeats 1000000
namespace L2
namespace Tg
open PySem L2 Pen3
abbrev s1 (c:Nat):D:=.str (mk1 c)
def ev:Str:=("!\"#$&'()*+,-./0123456789:;<=>?@ABCDEFGHIJKLMNOPQRSTUVWXYZ" : Str)++("[\\]^_`abcdefghijklmnopqrstuvwxyz{|}~" : Str)
theorem fJ:∀ (l:List Nat) (k:Nat),(l.map s1).eraseIdx k=(l.eraseIdx k).map s1
 | [],_=>rfl
 | a :: l,0=>rfl
 | a :: l,k+1=>by
  show s1 a :: (l.map s1).eraseIdx k=s1 a :: (l.eraseIdx k).map s1
  rw [fJ l k]
theorem lN {z:Str} (h:(li z).length≤1000):fH [.str z]=some (.list ((li z).map s1)):=by
 show grd (z.cps.size≤sizeLine) _=_
 unfold grd
 rw [if_pos (Nat.le_trans (by rw [← Array.length_toList]; exact h) sl1000)]
 rfl
theorem GD {left:List Nat} {k:Nat} (hk:k < left.length):pr (left.map s1) (k:Int)=some (s1 left[k],(left.eraseIdx k).map s1):=by
 unfold pr
 rw [List.length_map,DF (by omega) (by omega),Int.toNat_natCast]
 show Option.map _ _=_
 rw [List.getElem?_map,List.getElem?_eq_getElem hk,fJ]
 rfl
theorem p6 {α:Type} (xs:List α) (n:Nat):dL xs (some (n:Int)) none=xs.drop n:=by
 unfold dL
 rw [HT.sIx_none,HT.sIx_nat,List.take_of_length_le (by rw [List.length_drop]; exact Nat.le_refl _)]
 by_cases h:n≤xs.length
 ·rw [Nat.min_eq_left h]
 ·rw [Nat.min_eq_right (by omega),List.drop_eq_nil_of_le (Nat.le_refl _),List.drop_eq_nil_of_le (by omega)]
theorem ku {α:Type} (xs:List α) (n:Nat):dL xs none (some (n:Int))=xs.take n:=by
 unfold dL
 rw [HT.sIx_none,HT.sIx_nat,List.drop_zero,Nat.sub_zero]
 by_cases h:n≤xs.length
 ·rw [Nat.min_eq_left h]
 ·rw [Nat.min_eq_right (by omega),List.take_of_length_le (Nat.le_refl _),List.take_of_length_le (by omega)]
theorem jz:∀ ks:List Str,joinD.strsOf (ks.map .str)=some ks
 | []=>rfl
 | c :: cs=>by
  show (joinD.strsOf (cs.map .str)).map (c :: ·)=_
  rw [jz cs]
  rfl
theorem lQ {ks:List Str} (h:(aX ks).length≤1000) (h2:ks.length≤1000):joinD "" [.tuple (ks.map .str)]=some (.str (ofL (aX ks)))∧joinD "" [.list (ks.map .str)]=some (.str (ofL (aX ks))):=by
 have e:ofL (aX ks)=Txt.join "" ks:=(Ed (Fx ks)).symm
 constructor
 ·show (joinD.strsOf (ks.map .str)).bind _=_
  rw [jz]
  show (if _ then _ else _)=_
  rw [if_pos ⟨by decide,by rw [nH]; omega⟩,e]
 ·show (joinD.strsOf (ks.map .str)).bind _=_
  rw [jz]
  show (if _ then _ else _)=_
  rw [if_pos ⟨by decide,by rw [nH]; omega⟩,e]
theorem oK {cs:List Nat} (h:cs.length≤1000):joinD "" [.list (cs.map s1)]=some (.str (ofL cs)):=by
 have e:(cs.map s1)=(cs.map mk1).map PyData.str:=by rw [List.map_map]; rfl
 have h2:=(lQ (ks:=cs.map mk1) (by rw [nG]; exact h) (by rw [List.length_map]; exact h)).2
 rw [nG] at h2
 rw [e]
 exact h2
def tD (ks:List Str):D:=.tuple (ks.map .str)
abbrev sgs (ks:List Str):Str:=ofL (aX ks)
theorem oG (cs:List Nat):(ofL cs).length=cs.length:=by show cs.toArray.size=_; rw [List.size_toArray]
end Tg
end L2
namespace L2
namespace Tg
open PySem L2 Pen3
abbrev rv (z:Str):Str:=⟨z.cps.toList.reverse.toArray⟩
end Tg
end L2
set_option maxHeartbeats 4000000
namespace L2
open PySem PySem.Spec PyProof.Rows
structure Fly (h:Heap) (a T C:Addr):Prop where
 x:∃ oe vs a0,h.get? a=some oe∧oe.cls=.ref C∧oe.data=.fields vs∧vs[0]?=some a0∧vs[1]?=some (.ref T)
 t:∃ oT ts,h.get? T=some oT∧oT.data=.fields ts∧ts[3]?=some .none
 ne:T≠a
def CXr (P:Program) (w:World):CXT:=fun outer H s E e s'=>∃ (a T C:Addr) (H':Hp),e=.ref a∧E (.ref C) none H'∧s'.os=s.os∧AllBare s'.gens∧Un (frs outer) [] H H' s.heap s'.heap∧HOk P w H' s'.heap ∧
 H' a=none∧H' T=none∧s.heap.get? a=none∧s.heap.get? T=none∧Fly s'.heap a T C
def gM (h:Heap) (l:List Addr):Heap:=fP h fun b=>if b∈l then some (.own 0) else none
theorem gL {h:Heap} {l:List Addr} {b:Addr} {o:Obj} (e:h.get? b=some o) (n:b ∉ l):(gM h l).get? b=some o:=ni e (if_neg n)
theorem kW {h:Heap} {l:List Addr} {b:Addr} {o:Obj} (e:(gM h l).get? b=some o):h.get? b=some o∧b ∉ l:=by
 obtain ⟨e1,e2⟩:=oB e
 refine ⟨e1,fun z=>?_⟩
 rw [if_pos z] at e2
 cases e2
theorem eB {h:Heap} {l:List Addr} {b:Addr} (hb:b∈l):(gM h l).get? b=none:=by
 cases q:(gM h l).get? b with
 | none=>rfl
 | some o=>exact absurd hb (kW q).2
theorem iB {h base base':Heap}:∀ {l:List Env},h.FunFrames base l→(∀ b∈frs l,base'.get? b=none)→h.FunFrames base' l
 | [],_,_=>trivial
 | env :: r,hl,hb=>by
  obtain ⟨hk,⟨L,o,hf,hn,ho,hd⟩,hr⟩:=hl
  refine ⟨hk,⟨L,o,hf,hb L ?_,ho,hd⟩,iB hr fun b z=>hb b ?_⟩
  ·unfold frs; rw [List.filterMap_cons,hf]; exact List.mem_cons_self
  ·unfold frs; rw [List.filterMap_cons,hf]; exact List.mem_cons_of_mem _ z
theorem dz {h base:Heap}:∀ {l:List Env},h.FunFrames base l→∀ b∈frs l,∃ o,h.get? b=some o∧∀ vs,o.data≠.fields vs
 | [],_,b,hb=>by cases hb
 | env :: r,hl,b,hb=>by
  obtain ⟨hk,⟨L,o,hf,hn,ho,hd⟩,hr⟩:=hl
  unfold frs at hb
  rw [List.filterMap_cons,hf] at hb
  rcases List.mem_cons.mp hb with rfl | hb
  ·exact ⟨o,ho,hd⟩
  ·exact dz hr b hb
theorem lV {h h' base:Heap} (k:∀ b o,h.get? b=some o→(∀ vs,o.data≠.fields vs)→∃ sl,h'.get? b=some { o with slots:=sl }):∀ {l:List Env},h.FunFrames base l→h'.FunFrames base l
 | [],_=>trivial
 | env :: r,hl=>by
  obtain ⟨hk,⟨L,o,hf,hn,ho,hd⟩,hr⟩:=hl
  obtain ⟨sl,e⟩:=k L o ho hd
  exact ⟨hk,⟨L,_,hf,hn,e,hd⟩,lV k hr⟩
theorem HOk.tracked {P:Program} {w:World} {H:Hp} {h h':Heap} (x:HOk P w H h) (k:∀ b u,H b≠none→h.get? b=some u→h'.get? b=some u):HOk P w H h':=fun a o e =>
 (x a o e).stay (fun b u hb q=>k b u (by
  rcases hb with rfl | hb
  ·rw [e]; simp
  ·rw [hb]; simp) q) (fun _ q=>q) fun _ _ q=>q
theorem Un.behind {fs:List Addr} {H H1:Hp} {h h1 h2:Heap} (u:Un fs [] H H1 h h1) (k:∀ b o',h.get? b=some o'→∀ o,h1.get? b=some o→b ∉ fs→h2.get? b=some o)
  (sl:∀ b o',h.get? b=some o'→∀ o,h1.get? b=some o→b∈fs→∃ sl,h2.get? b=some { o with slots:=sl }):Un fs [] H H1 h h2 where
 keep:=fun b o q n hb hx=>k b o q o (u.keep b o q n hb hx) hb
 slot:=fun b o q n hb hx=>by
  obtain ⟨s1,e1⟩:=u.slot b o q n hb hx
  obtain ⟨s2,e2⟩:=sl b o q _ e1 hb
  exact ⟨s2,e2⟩
 free:=u.free
 there:=fun b o q hx=>by
  obtain ⟨o',e⟩:=u.there b o q hx
  by_cases hb:b∈fs
  ·obtain ⟨s2,e2⟩:=sl b o q _ e hb
   exact ⟨_,e2⟩
  ·exact ⟨_,k b o q _ e hb⟩
 tups:=u.tups
 frzs:=u.frzs
 tbls:=u.tbls
theorem ObjOk.get {P:Program} {w:World} {H:Hp} {h:Heap} {a:Addr} {o:HO} (x:ObjOk P w H h a o):∃ ob,h.get? a=some ob:=by
 cases o with
 | lst xs=>obtain ⟨_,_,_,_,e⟩:=x; exact ⟨_,e⟩
 | tup xs=>obtain ⟨_,_,_,o,e,_⟩:=x; exact ⟨_,e⟩
 | dK kvs=>obtain ⟨_,_,_,_,o,_,_,e,_⟩:=x; exact ⟨_,e⟩
 | dT kvs=>obtain ⟨_,_,_,_,o,_,_,e,_⟩:=x; exact ⟨_,e⟩
 | set S n=>obtain ⟨o,_,_,_,e,_⟩:=x; exact ⟨_,e⟩
 | ins C dx fs=>obtain ⟨_,_,_,e,_⟩:=x; exact ⟨_,e⟩
 | own y=>exact x
 | xd fs=>obtain ⟨_,⟨_,_,_,e,_⟩,_⟩:=x; exact ⟨_,e⟩
 | rng lo hi=>obtain ⟨_,_,_,e⟩:=x; exact ⟨_,e⟩
 | frz ob u=>obtain ⟨e,_⟩:=x; exact ⟨_,e⟩
 | tbl ps=>exact ⟨_,(show h.get? a=some _ from x)⟩
 | met f y=>exact ⟨_,(show h.get? a=some _ from x)⟩
 | ext φ=>obtain ⟨_,e,_⟩:=x; exact e
theorem HOk.none {P:Program} {w:World} {H:Hp} {h:Heap} {a:Addr} (x:HOk P w H h) (e:h.get? a=none):H a=none:=by
 cases q:H a with
 | none=>rfl
 | some o =>
  obtain ⟨ob,z⟩:=(x a o q).get
  rw [e] at z
  cases z
section
variable {X:Cx} {pins:List (Addr × Obj)} {σ:St} {H:Hp} {s:Shared} {E:XK}
theorem Inv.frn (I:Inv X pins σ H s) (hx:X.ex=[]):∀ b∈frs X.stack,H b=none:=fun b hb=>by
 rcases List.mem_cons.mp (I.stkSub b hb) with rfl | hb
 ·exact I.free
 ·obtain ⟨o,ho,_⟩:=dz I.ok.funs b hb
  exact I.base.free b o ho (I.ok.frf b hb) (by rw [hx]; simp)
structure Rsx (X:Cx) (E:XK):Prop where
 xe:X.xe=fun e s'=>wpAny (model X.prog X.w) X.A (leaving X.env e) (fun _ s''=>CXr X.prog X.w X.outer X.H₀ X.s₀ E e s'') (fun e' s''=>CXr X.prog X.w X.outer X.H₀ X.s₀ E e' s'') s'
 stk:X.stack=X.env :: X.outer
 fr:X.env.frame=some X.env.locals
 ex:X.ex=[]
 calm:X.calm=true
theorem mO (R:Rsx X E) (I:Inv X pins σ H s) {h':Heap} {e C:Addr} {args:List Value} (m:s.heap.MadeExcOf h' e (.ref C) args) (hE:E (.ref C) none H) :
  X.xe (.ref e) { heap:=h',gens:=s.gens,drawn:=s.drawn,toks:=s.toks,os:=s.os }:=by
 rw [R.xe]
 obtain ⟨t,he,ht1,ht2⟩:=m.there
 have fs:=I.stack
 have fh:h'.FunFrames X.base X.stack:=lV (fun b o q _=>⟨o.slots,m.keeps b o q⟩) fs
 have fB:h'.FunFrames (gM h' (frs X.stack++[e])) X.stack:=iB fh fun b hb=>eB (List.mem_append_left _ hb)
 have un:=I.base
 rw [R.ex] at un
 refine wpAny_leaving_firstW (base:=gM h' (frs X.stack++[e])) (env:=X.env) (outer:=X.outer) (by rw [← R.stk]; exact I.ok.frames) (by rw [← R.stk]; exact fB) R.fr he (fun b o q=>(kW q).1) (eB (by simp)) rfl rfl rfl fun h2 ⟨stays,f2,⟨oe,vs,T,oT,ts,q1,⟨q2,q3⟩,q4,q5,q6,q7,q8,q9,q10⟩,nonf⟩=>?_
 have tn:h'.get? T=none:=by
  cases q:h'.get? T with
  | none=>rfl
  | some o =>
   have hT:T∈frs X.stack++[e]:=Decidable.byContradiction fun hn=>by
    rw [gL q hn] at q6
    cases q6
   rcases List.mem_append.mp hT with hT | hT
   ·obtain ⟨o2,g1,g2⟩:=dz fh T hT
    obtain ⟨sl,g3⟩:=nonf T o2 g1 g2
    rw [q8] at g3
    cases g3
    exact absurd q9 (g2 ts)
   ·exact absurd (by simpa using hT) q7
 have sn:s.heap.get? T=none:=by
  cases q:s.heap.get? T with
  | none=>rfl
  | some o=>rw [m.keeps T o q] at tn; cases tn
 have old:∀ b o,s.heap.get? b=some o→b ∉ frs X.stack→h2.get? b=some o:=fun b o q hb=>stays b o (gL (m.keeps b o q) fun z=>by
  rcases List.mem_append.mp z with z | z
  ·exact hb z
  ·have z':b=e:=by simpa using z
   subst z'
   rw [m.new] at q
   cases q)
 have nos:∀ b,s.heap.get? b=none→X.s₀.heap.get? b=none:=fun b q=>by
  cases q2:X.s₀.heap.get? b with
  | none=>rfl
  | some o =>
   obtain ⟨o',z⟩:=un.there b o q2 (by simp)
   rw [q] at z
   cases z
 refine ⟨e,T,C,H,rfl,hE,I.os,I.bare,un.behind (fun b o' q0 o q hb=>old b o q fun z=>?_) (fun b o' q0 o q hb=>?_),I.hok.tracked fun b u hb q=>old b u q fun z=>hb (I.frn R.ex b z),I.hok.none m.new,I.hok.none sn,nos e m.new,nos T sn,⟨⟨oe,vs,_,q1,q2,q4,q3,q5⟩,⟨oT,ts,q8,q9,q10⟩,q7⟩⟩
 ·rcases List.mem_cons.mp (I.stkSub b z) with rfl | z
  ·exact absurd (Heap.lt_size q0) (Nat.not_lt_of_le I.ok.above)
  ·exact hb z
 ·obtain ⟨o2,g1,g2⟩:=dz fs b (by rw [R.stk]; unfold frs; rw [List.filterMap_cons,R.fr]; exact List.mem_cons_of_mem _ hb)
  rw [q] at g1
  cases g1
  exact nonf b o (m.keeps b o q) g2
end
end L2
namespace L2
open PySem PySem.Spec PyProof.Rows
theorem jK {K:PySem.W.Frag} {C:Addr} {bmB:List Value} {newId:String} (hx:PySem.W.excIn K C bmB newId=true) :
  ∃ nm q N bs bm hdct sn sub ab col dd k0 k1 k2 k3 k5,K.lookup C=some (excClassObj nm q C N bs bm hdct sn sub ab col dd k0 k1 k2 k3 k5 newId)∧PySem.W.tailIn K bmB bm=true∧PySem.W.nsOkIn K N=true∧PySem.W.nsIn K N (Str.ofString "__init__")=some none:=by
 unfold PySem.W.excIn at hx
 split at hx
 ·next dict cd sl hl =>
  split at hx
  ·next C' bm h0 h1 h2 h3 n h5 e1 e2 =>
   simp only [Bool.and_eq_true,beq_iff_eq,Bool.not_eq_true'] at hx
   obtain ⟨⟨⟨⟨⟨a1,a2⟩,a3⟩,a4⟩,a5⟩,a6⟩:=hx
   subst a1 a2
   obtain ⟨nm,bases,mro,ns,qn,hd,sn,sub,ab,col,hdel⟩:=cd
   simp only at e1 a3 a5 a6
   subst e1 a3
   have e3:sl=#[h0,h1,h2,h3,some (Value.builtin n),h5]:=Array.toList_inj.mp e2
   subst e3
   exact ⟨nm,qn,ns,bases,bm,hd,sn,sub,ab,col,dict,h0,h1,h2,h3,h5,hl,a4,a5,a6⟩
  ·cases hx
 ·cases hx
theorem mG {h:Heap} {bmB bm:List Value} {v:Value} (t:OwnTail h bmB bm) (c:bmB.contains v=true):bm.contains v=true:=by
 induction t with
 | base=>exact c
 | own _ _ _ _ ih =>
  rw [List.contains_cons,ih]
  simp
section
variable {X:Cx} {E:XK} {C:Addr} {bmB:List Value} {B newId initId:String} {x:Str} {np cpos pos:Pos} {a:Expr} {t:TA}
def Dy (E:XK) (C:Addr) (t:TA):TS:=fun _ σ H=>t σ H fun vs H1=>vs.length≤sizeLine∧E (.ref C) none H1
theorem sA (R:Rsx X E) (hb:ExcBaseFacts B newId initId bmB) (hx:PySem.W.excIn X.K C bmB newId=true) (hg:Gl X x) (hm:X.mg x=some (.ref C)) (ha:PA X [a] t)
  (hdb:(x == ("__debug__" : Str))=false:=by decide) (hst:starEach [a] X.env=(false,eval a X.env) :: starEach [] X.env:=by rfl) :
  PS X (.Raise (some (.Call (.Name x np) [a] [] cpos)) none pos) (Dy E C t):=by
 intro pins s σ H D I h
 obtain ⟨nm,q,N,bs,bm,hdct,sn,sub,ab,col,dd,k0,k1,k2,k3,k5,l1,l2,l3,l4⟩:=jK hx
 have kb:=I.mod.kin
 have tb:=PySem.W.tail_of_in kb l2
 refine wpAny_Raise_call_subT (nm:=nm) (q:=q) (C:=C) (N:=N) (bs:=bs) (bm:=bm) (hdct:=hdct) (sn:=sn) (sub:=sub) (ab:=ab) (col:=col) (dd:=dd) (k0:=k0) (k1:=k1) (k2:=k2) (k3:=k3) (k5:=k5) (mN:=X.base.nsMap N) hb (mG tb hb.hasBase) (I.ok.hd R.calm) ?_ (PySem.W.nsMap_none_of_in kb l3 l4) (gl I hg hm ⟨rfl,?_⟩ hdb)
 ·rw [hst]; rfl
 ·refine evalArgs_kw2 (kws:=[]) rfl (thn (ha cpos pins s σ H _ I h) fun us s2 ⟨vs,H2,I2,rv,hl,hE⟩=>?_) hst
  refine wpAny_pure ⟨rfl,by show us.length≤sizeLine; rw [← rv.length]; exact hl,I2.kIn C _ l1,(Heap.Ns.of_isNs (PySem.W.isNs_of_in kb l3)).keeps I2.bk,PySem.W.tail_of_in I2.kIn l2,fun h' e m=>mO R I2 m hE⟩
end
end L2
namespace L2
open PySem PySem.Spec PyProof.Rows
theorem og {M:Model} {A:Around} {E:Value→Shared→Prop} {nm q:Str} {C N:Addr} {bs bm:List Value} {hdct:Bool} {sn:List Str} {sub:List Value} {ab:Bool} {col:Option Bool} {dd:Option Addr} {k0 k1 k2 k3 k5:Option Value}
  {newId:String} {h:Heap} {g:Array GenState} {d:Drawn} {t:Nat} {os:OsState} {v:Value} {Q:Bool→Shared→Prop}
  (h1:h.get? C=some (excClassObj nm q C N bs bm hdct sn sub ab col dd k0 k1 k2 k3 k5 newId)) (h6:bm.contains v=true)
  (k:Q true { heap:=h,gens:=g,drawn:=d,toks:=t,os:=os }):wpAny M A (isSubtype (.ref C) v) Q E { heap:=h,gens:=g,drawn:=d,toks:=t,os:=os }:=by
 unfold isSubtype
 wp_walk using wpAny_load h1
 have e:(Value.ref C :: bm).contains v=true:=by
  rw [List.contains_cons,h6]
  simp
 show Q ((Value.ref C :: bm).contains v) _
 rw [e]
 exact k
theorem k9 {M:Model} {A:Around} {E:Value→Shared→Prop} {nm q nm' q':Str} {C N C' N':Addr} {bs bm bs' bm':List Value} {hdct hdct':Bool} {sn sn':List Str} {sub sub':List Value} {ab ab':Bool} {col col':Option Bool} {dd dd':Option Addr} {k0 k1 k2 k3 k5 j0 j1 j2 j3 j5:Option Value}
  {newId newId':String} {h:Heap} {g:Array GenState} {d:Drawn} {t:Nat} {os:OsState} {e:Addr} {oe:Obj} {Q:Bool→Shared→Prop}
  (h1:h.get? C=some (excClassObj nm q C N bs bm hdct sn sub ab col dd k0 k1 k2 k3 k5 newId)) (h2:h.get? C'=some (excClassObj nm' q' C' N' bs' bm' hdct' sn' sub' ab' col' dd' j0 j1 j2 j3 j5 newId'))
  (h3:h.get? e=some oe) (h4:oe.cls=.ref C) (h5:bm'.contains (Value.type "BaseException")=true) (h6:bm.contains (Value.ref C')=true)
  (k:Q true { heap:=h,gens:=g,drawn:=d,toks:=t,os:=os }):wpAny M A (excMatches (.ref e) (.ref C')) Q E { heap:=h,gens:=g,drawn:=d,toks:=t,os:=os }:=by
 unfold excMatches
 have f1:isSubtype (Value.type "type") (Value.type "tuple")=pure false:=by unfold isSubtype; kernel_rfl
 wp_walk using wpAny_load h1,wpAny_load h2,wpAny_load h3
 refine og h2 h5 ?_
 wp_walk using wpAny_load h1,wpAny_load h2,wpAny_load h3
 rw [h4]
 refine og h1 h6 ?_
 wp_walk
 exact k
section
variable {X:Cx} {pins:List (Addr × Obj)} {σ:St} {H H1 H':Hp} {s s1 s':Shared} {E:XK} {D:Ends}
structure Dfx (X:Cx):Prop where
 stk:X.stack=X.env :: X.outer
 fr:X.env.frame=some X.env.locals
 ex:X.ex=[]
theorem jn {h h' base:Heap}:∀ {l:List Env},(∀ b∈frs l,∀ o,h.get? b=some o→∃ sl,h'.get? b=some { o with slots:=sl })→h.FunFrames base l→h'.FunFrames base l
 | [],_,_=>trivial
 | env :: r,k,hl=>by
  obtain ⟨hk,⟨L,o,hf,hn,ho,hd⟩,hr⟩:=hl
  obtain ⟨sl,e⟩:=k L (by unfold frs; rw [List.filterMap_cons,hf]; exact List.mem_cons_self) o ho
  exact ⟨hk,⟨L,_,hf,hn,e,hd⟩,jn (fun b hb=>k b (by unfold frs; rw [List.filterMap_cons,hf]; exact List.mem_cons_of_mem _ hb)) hr⟩
theorem kg (I:Inv X pins σ H1 s1) (ex:X.ex=[]) (os:s'.os=s1.os) (bare:AllBare s'.gens) (un:Un (frs X.stack) [] H1 H' s1.heap s'.heap) (hok:HOk X.prog X.w H' s'.heap) {a T:Addr} (ha:H' a=none) (hT:H' T=none) (na:s1.heap.get? a=none) (nT:s1.heap.get? T=none)
  {h:Heap} {tk:Nat} (hk:∀ b o,s'.heap.get? b=some o→b ∉ frs X.stack→b≠a→b≠T→h.get? b=some o) (hf:∀ b∈frs X.stack,∀ o,s'.heap.get? b=some o→∃ sl,h.get? b=some { o with slots:=sl }) :
  Inv X pins σ H' { heap:=h,gens:=s'.gens,drawn:=s'.drawn,toks:=tk,os:=s'.os }:=by
 have fn:∀ b∈frs X.stack,H' b=none:=fun b hb=>by
  obtain ⟨o,ho,_⟩:=dz I.stack b hb
  exact un.free b o ho (I.frn ex b hb) (by simp)
 have ne:∀ b o,s1.heap.get? b=some o→b≠a∧b≠T:=fun b o q=>⟨fun z=>(by rw [z,na] at q; cases q),fun z=>(by rw [z,nT] at q; cases q)⟩
 have u2:Un (frs X.stack) [] H1 H' s1.heap h:=un.behind (fun b o' q0 o q hb=>hk b o q hb (ne b o' q0).1 (ne b o' q0).2) fun b o' q0 o q hb=>hf b hb o q
 have ho:HOk X.prog X.w H' h:=hok.tracked fun b u hb q=>hk b u q (fun z=>hb (fn b z)) (fun z=>hb (by rw [z]; exact ha)) fun z=>hb (by rw [z]; exact hT)
 rw [os]
 exact I.call (ch:=[]) u2 ho bare fun _ z=>by cases z
abbrev Cx.suite (X:Cx) (v:Value) (xe:Value→Shared→Prop):Cx:={ X with A:=X.A.mark (some v),calm:=false,xe:=xe }
theorem Inv.suite (I:Inv X pins σ H s) (v:Value) (xe:Value→Shared→Prop):Inv (X.suite v xe) pins σ H s :=
 ⟨⟨I.ok.mod,I.ok.kind,I.ok.glob,I.ok.blt,I.ok.above,I.ok.inj,I.ok.has,I.ok.cab,fun z=>(nomatch z),I.ok.frames,I.ok.stk,I.ok.exf,I.ok.bs,I.ok.bsz,I.ok.noex,I.ok.exfs,I.ok.funs,I.ok.frf⟩,I.os,I.bare,I.base,I.loc,I.cell,I.free,I.freeC,I.pin,I.hok,I.len⟩
theorem Inv.unsuite {v:Value} {xe:Value→Shared→Prop} (hd:X.calm=true→X.A.handled=none) (I:Inv (X.suite v xe) pins σ H s):Inv X pins σ H s :=
 ⟨⟨I.ok.mod,I.ok.kind,I.ok.glob,I.ok.blt,I.ok.above,I.ok.inj,I.ok.has,I.ok.cab,hd,I.ok.frames,I.ok.stk,I.ok.exf,I.ok.bs,I.ok.bsz,I.ok.noex,I.ok.exfs,I.ok.funs,I.ok.frf⟩,I.os,I.bare,I.base,I.loc,I.cell,I.free,I.freeC,I.pin,I.hok,I.len⟩
end
end L2
namespace L2
open PySem PySem.Spec PyProof.Rows
def jZ (K:PySem.W.Frag) (C C':Addr):Bool:=match K.lookup C with
 | some o=>match o.data with
  | .cls cd=>cd.mro.tail.contains (.ref C')
  | _=>false
 | none=>false
section
variable {X:Cx} {pins:List (Addr × Obj)} {σ:St} {H H1 H':Hp} {s s1 s':Shared} {E:XK} {D:Ends}
theorem SP.unsuite {v:Value} {xe:Value→Shared→Prop} (hd:X.calm=true→X.A.handled=none) {f:Flow} (h:SP (X.suite v xe) pins D f s):SP X pins D f s:=by
 cases f with
 | next=>obtain ⟨σ',H',I,q⟩:=h; exact ⟨σ',H',I.unsuite hd,q⟩
 | brk=>obtain ⟨σ',H',I,q⟩:=h; exact ⟨σ',H',I.unsuite hd,q⟩
 | cont=>obtain ⟨σ',H',I,q⟩:=h; exact ⟨σ',H',I.unsuite hd,q⟩
 | ret u=>obtain ⟨v,σ',H',I,r,q⟩:=h; exact ⟨v,σ',H',I.unsuite hd,r,q⟩
theorem t5 {G:Hp→Prop} {C C':Addr} {bmB:List Value} {newId newId':String} {y:Str} {yp hp:Pos} {b₀:Stmt} {suite:List Stmt} {tb:TS} {ev:Value} (Df:Dfx X) (I:Inv X pins σ H1 s1)
  (hc:CXr X.prog X.w X.stack H1 s1 (fun c _ H'=>c=.ref C∧G H') ev s') (hx:PySem.W.excIn X.K C bmB newId=true) (hx':PySem.W.excIn X.K C' bmB newId'=true) (hbase:bmB.contains (Value.type "BaseException")=true) (hs:jZ X.K C C'=true)
  (hg:Gl X y) (hm:X.mg y=some (.ref C')) (hdb:(y == ("__debug__" : Str))=false) (hb:∀ v xe,PSs (X.suite v xe) (b₀ :: suite) tb) (k:∀ H',G H'→tb D σ H') :
  wpAny (model X.prog X.w) X.A (noteFrame ev X.env) (fun _ s2=>wpAny (model X.prog X.w) X.A (setFlight ev none) (fun _ s3=>wpAny (model X.prog X.w) X.A (handleBy ev X.env [.ExceptHandler (some (.Name y yp)) none (b₀ :: suite) hp]) (SP X pins D) X.xe s3) X.xe s2) X.xe s':=by
 obtain ⟨a,T,C0,H',rfl,⟨eC,hG⟩,os,bare,un,hok,ha,hT,na,nT,⟨oe,vs,a0,q1,q2,q3,q4,q5⟩,⟨oT,ts,q6,q7,q8⟩,hne⟩:=hc
 have eC':C0=C:=by injection eC
 subst eC'
 have fh:s'.heap.FunFrames X.base X.stack:=jn (fun b hb o ho=>un.any ho (I.frn Df.ex b hb) (by simp)) I.stack
 have fB:s'.heap.FunFrames (gM s'.heap (frs X.stack++[a,T])) X.stack:=iB fh fun b hb=>eB (List.mem_append_left _ hb)
 have frames:X.A.frames=some (X.env :: X.outer):=by rw [← Df.stk]; exact I.ok.frames
 refine wpAny_noteFrame_onW (base:=gM s'.heap (frs X.stack++[a,T])) (cls:=.ref C0) (a0:=a0) frames (by rw [← Df.stk]; exact fB) Df.fr ⟨oe,vs,T,oT,ts,q1,⟨q2,q4⟩,q3,q5,eB (by simp),hne,q6,q7,q8⟩ (fun b o q=>(kW q).1) (eB (by simp)) fun h2 ⟨st2,f2,tr2,nf2⟩=>?_
 refine wpAny_setFlight_noneW (base:=gM s'.heap (frs X.stack++[a,T])) (l:=X.env :: X.outer) st2 f2 tr2 fun h3 st3 f3 ⟨oe3,vs3,T3,oT3,ts3,g1,⟨g2,g3⟩,g4,g5,g6,g7,g8,g9,g10⟩ nf3=>?_
 have nf4:∀ b∈frs X.stack,∀ o,s'.heap.get? b=some o→∃ sl,h3.get? b=some { o with slots:=sl }∧∀ vs,o.data≠.fields vs:=fun b hb o q=>by
  obtain ⟨o2,z1,z2⟩:=dz fh b hb
  rw [q] at z1
  cases z1
  obtain ⟨sl,z3⟩:=nf2 b o q z2
  exact ⟨sl,nf3 b _ z3 z2,z2⟩
 have old:∀ b o,s'.heap.get? b=some o→b ∉ frs X.stack→b≠a→b≠T→h3.get? b=some o:=fun b o q z1 z2 z3=>st3 b o (gL q fun z=>by
  rcases List.mem_append.mp z with z | z
  ·exact z1 z
  ·have z':b=a∨b=T:=by simpa using z
   exact z'.elim z2 z3)
 have I3:Inv X pins σ H' { heap:=h3,gens:=s'.gens,drawn:=s'.drawn,toks:=s'.toks,os:=s'.os }:=kg I Df.ex os bare un hok ha hT na nT old fun b hb o q=>let ⟨sl,z,_⟩:=nf4 b hb o q; ⟨sl,z⟩
 obtain ⟨nm,q,N,bs,bm,hdct,sn,sub,ab,col,dd,k0,k1,k2,k3,k5,l1,l2,_,_⟩:=jK hx
 obtain ⟨nm',q',N',bs',bm',hdct',sn',sub',ab',col',dd',j0,j1,j2,j3,j5,m1,m2,_,_⟩:=jK hx'
 have hsub:bm.contains (Value.ref C')=true:=by
  unfold jZ at hs
  rw [l1] at hs
  exact hs
 refine wpAny_handleBy_cons (codeAny_handlers_test (gl (X:=X.suite (.ref a) fun _ _=>False) (I3.suite _ _) hg hm ?_ hdb)) (fun z=>nomatch z)
 refine k9 (I3.kIn C0 _ l1) (I3.kIn C' _ m1) g1 g2 (mG (PySem.W.tail_of_in I3.mod.kin m2) hbase) hsub ?_
 have sz3:3 < ts3.size:=by
  rw [Array.getElem?_eq_some_iff] at g10
  exact g10.1
 refine codeAny_handlers_suite (wpAny_setFlight_none g1 g4 g5 g8 g9 sz3 ?_)
 have I4:Inv X pins σ H' { heap:=h3.update T3 (Obj.mapFields fun x=>x.setIfInBounds 3 Value.none),gens:=s'.gens,drawn:=s'.drawn,toks:=s'.toks,os:=s'.os }:=kg I Df.ex os bare un hok ha hT na nT (fun b o q z1 z2 z3=>?_) fun b hb o q=>?_
 ·exact wpAny_mono (hb (.ref a) _ pins _ σ H' D (I4.suite _ _) (k H' hG)) (fun f s4 z=>z.unsuite I.ok.hd) fun e s4 z=>z
 ·rw [Heap.get?_update_ne]
  ·exact old b o q z1 z2 z3
  ·rintro rfl
   have:b∈frs X.stack++[a,T]:=Decidable.byContradiction fun hn=>by
    rw [gL q hn] at g6
    cases g6
   rcases List.mem_append.mp this with z | z
   ·exact z1 z
   ·have z':b=a∨b=T:=by simpa using z
    exact z'.elim z2 z3
 ·obtain ⟨sl,z,z2⟩:=nf4 b hb o q
  refine ⟨sl,?_⟩
  rw [Heap.get?_update_ne]
  ·exact z
  ·rintro rfl
   rw [g8] at z
   cases z
   exact z2 ts3 g9
end
end L2
namespace L2
open PySem PySem.Spec PyProof.Rows
abbrev MX:=En→Option Unit
structure Reach (H:Hp) (R:Nat→AS) (H':Hp):Prop where
 keep:∀ a o,H a=some o→(∀ i,¬ R i a)→H' a=some o
 dom:∀ a o,H a=some o→∃ o',H' a=some o'
def tFX (K:PySem.W.Frag) (ds:List Nat) (m:MX) (Z:Hp→Prop):TS:=fun _ σ H=>∃ Ox en R,EnvOk K ds Ox H σ en R∧m en=some ()∧∀ H',Reach H R H'→Z H'
def BI:MX:=fun _=>some ()
def xIf (c:MT) (m:MX):MX:=fun en=>(c en).bind fun r=>if r.1 then m r.2 else none
def kL (f:MS) (m:MX):MX:=fun en=>(f en).bind fun fl=>match fl with
 | .nx en1=>m en1
 | _=>none
section
variable {X:Cx} {K:PySem.W.Frag} {p:Bool} {J:Jd} {ds ds0 ds1 ds' dps:List Nat} {H H' H'':Hp} {σ σ':St} {Dn:Ends} {R R':Nat→AS} {Ox F:AS} {en en':En} {m:MX} {Z:Hp→Prop} {f:MS} {cm:MT} {st:Stmt} {sts body els:List Stmt} {c:Expr} {pos np cpos p2:Pos} {E:XK}
theorem Reach.post (P:Post K p ds' Ox σ H en R en' H' R' F) (r:Reach H' R' H''):Reach H R H'' :=
 ⟨fun a o q n=>r.keep a o (P.keep a o q n) fun i z=>(P.own a (.inr ⟨i,z⟩)).elim (fun ⟨j,w⟩=>n j w) fun w=>(by rw [q] at w; cases w),fun a o q=>let ⟨o',q'⟩:=P.dom a o q; r.dom a o' q'⟩
theorem Reach.postS {lk:List Nat} (P:PostS K lk ds' Ox σ H R σ' en' H' R' F) (r:Reach H' R' H''):Reach H R H'' :=
 ⟨fun a o q n=>r.keep a o (P.keep a o q n) fun i z=>(P.own a (.inr ⟨i,z⟩)).elim (fun ⟨j,w⟩=>n j w) fun w=>(by rw [q] at w; cases w),fun a o q=>let ⟨o',q'⟩:=P.dom a o q; r.dom a o' q'⟩
theorem PS.nox {t:TS} (h:PS X.nox st t):PS X st t:=fun pins s σ H D I hw =>
 wpAny_mono (h pins s σ H D (I.wish _) hw) (fun _ _ q=>q.unwish) fun _ _ z=>False.elim z
theorem tq {x z:Str} {j:Nat} {C:Addr} {bmB:List Value} {B newId initId:String} (R:Rsx X E) (hb:ExcBaseFacts B newId initId bmB) (hx:PySem.W.excIn X.K C bmB newId=true) (hg:Gl X x) (hm:X.mg x=some (.ref C)) (hdb:(x == ("__debug__" : Str))=false) :
  QS X (.Raise (some (.Call (.Name x np) [.Constant (.str z) j p2] [] cpos)) none pos) (tFX K ds BI fun H'=>E (.ref C) none H') :=
 ⟨fun pins s σ H D I ⟨Ox,en,R0,e,_,k⟩=>sA R hb hx hg hm (dy pe_str pa_nil) hdb rfl pins s σ H D I ⟨by show 1≤sizeLine; decide,k H ⟨fun _ _ q _=>q,fun _ o q=>⟨o,q⟩⟩⟩⟩
theorem FY (hc:QT X.nox c (tFT K p ds ds1 cm)) (ha:QSs X body (tFX K ds1 m Z)):QS X (.If c body els pos) (tFX K ds (xIf cm m) Z) :=
 ⟨fun pins s σ H D I ⟨Ox,en,R,e,hm,k⟩=>zC hc.h.nox ha.h lJ pins s σ H D I (by
  unfold xIf at hm
  obtain ⟨⟨b,en1⟩,h1,h2⟩:=Option.bind_eq_some_iff.mp hm
  cases b with
  | false=>cases h2
  | true=>exact ⟨Ox,en,R,true,en1,e,h1,fun H' R' P=>⟨Ox,en1,R',P.env0,h2,fun H'' r=>k H'' (r.post P)⟩⟩)⟩
theorem rn (h:QS X st (tFX K ds m Z)):QSs X (st :: sts) (tFX K ds m Z) :=
 ⟨fun pins s σ H D I q=>jB h.h lJ pins s σ H D I q⟩
theorem oP (h:QS X.nox st (tFS K J ds ds1 f)) (hr:QSs X sts (tFX K ds1 m Z)):QSs X (st :: sts) (tFX K ds (kL f m) Z) :=
 ⟨fun pins s σ H D I ⟨Ox,en,R,e,hm,k⟩=>jB h.h.nox hr.h pins s σ H D I (by
  unfold kL at hm
  obtain ⟨fl,h1,h2⟩:=Option.bind_eq_some_iff.mp hm
  cases fl with
  | nx en1=>exact ⟨Ox,en,R,.nx en1,e,h1,fun σ' H' R' P=>⟨Ox,en1,R',P.env0,h2,fun H'' r=>k H'' (r.postS P)⟩⟩
  | rt t en1=>cases h2
  | ct en1=>cases h2)⟩
def fnX (n:Nat) (b:MX):List D→Option Unit:=fun ts=>b (ts.map some++List.replicate n none)
def rzF (dps:List Nat) (Rz:List D→Option Unit):List D→Option (D × En):=fun ts=>(Rz ts).map fun _=>(.none,dps.map fun _=>none)
def spX (K:PySem.W.Frag) (dps:List Nat) (C:Addr) (Rz:List D→Option Unit):Sp:=fun vs H _ E=>spF K dps 3 (rzF dps Rz) vs H (fun _ H'=>E (.ref C) none H') E
theorem AR {N:List Str} {vs:List V} {n:Nat} {b:MX} {C:Addr} {Q:VK} (hn:N.length - dps.length=n) (h:spX K dps C (fnX n b) vs H Q E):tFX K (dps++List.replicate n 0) b (fun H'=>E (.ref C) none H') Dn (bX N vs) H:=by
 obtain ⟨Ox,ts,R,r,outs,e,hf,k⟩:=h
 have lv:dps.length=vs.length:=by have:=e.l2; rw [List.length_map] at this; exact this
 have lt:ts.length=vs.length:=by have:=e.l1; rw [List.length_map,List.length_map] at this; exact this
 have hs:bX N vs=vs.map some++List.replicate n none:=by unfold bX; rw [← lv,hn]
 obtain ⟨u,h1,hf⟩:=Option.map_eq_some_iff.mp hf
 cases hf
 have get0:∀ {α:Type} (xs:List α) (i:Nat) (u:α),(xs.map some++List.replicate n none)[i]?=some (some u)→(xs.map some)[i]?=some (some u)∧i < xs.length:=fun xs i u z=>by
  by_cases hi:i < xs.length
  ·rw [List.getElem?_append_left (by rw [List.length_map]; exact hi)] at z
   exact ⟨z,hi⟩
  ·rw [List.getElem?_append_right (by rw [List.length_map]; omega),List.getElem?_replicate] at z
   split at z
   ·cases z
   ·cases z
 refine ⟨Ox,ts.map some++List.replicate n none,R,?_,h1,fun H' r=>k .non H' (fun _=>NoA) NoA ⟨⟨fun i u hu=>?_,fun _ _ _ z=>z.elim,fun _ _ z=>z.elim,fun a z=>?_,by simp [lv],by simp [lv]⟩,fun _ z=>z.elim,r.keep,fun a z=>?_,r.dom,fun z=>nomatch z⟩ rfl⟩
 ·rw [hs]
  refine ⟨fun i u hu=>?_,e.dj,e.dx,e.dom,by simp [lt],by simp [lv]⟩
  obtain ⟨hu',hi⟩:=get0 ts i u hu
  obtain ⟨v,d,g1,g2,g3⟩:=e.at_ i u hu'
  refine ⟨v,d,?_,?_,g3⟩
  ·rw [List.getElem?_append_left (by rw [List.length_map]; omega)]; exact g1
  ·rw [List.getElem?_append_left (by omega)]; exact g2
 ·rw [List.getElem?_map] at hu
  cases q:dps[i]? with
  | none=>rw [q] at hu; cases hu
  | some d=>rw [q] at hu; cases hu
 ·rcases z with ⟨_,z⟩ | z | z
  ·exact z.elim
  ·exact z.elim
  ·obtain ⟨o,q⟩:=e.dom a (.inr z)
   exact r.dom a o q
 ·rcases z with z | ⟨_,z⟩
  ·exact z.elim
  ·exact z.elim
end
section
variable {P:Program} {w:World} {K:PySem.W.Frag} {mg:Str→Option Value} {base:Heap}
def KnX (P:Program) (w:World) (K:PySem.W.Frag) (mg:Str→Option Value) (base:Heap) (k:Nat) (x:Str) (ps:List Str) (sp:Sp):Prop :=
 ∃ f fd,FnOk P w K mg base (CXr P w) k f fd ps sp∧mg x=some (.ref f)∧PySem.W.keepIn K (.ref f)=true∧Binds K fd ps []
theorem KnX.mono {j k:Nat} {x:Str} {ps:List Str} {sp:Sp} (G:KnX P w K mg base j x ps sp) (h:j≤k):KnX P w K mg base k x ps sp :=
 let ⟨f,fd,a,b,c,d⟩:=G
 ⟨f,fd,a.mono h,b,c,d⟩
theorem Fun.okX {x qual:Str} {st:Stmt} {f C:Addr} {fd:FuncData} {N ps:List Str} {k n:Nat} {dps ds0:List Nat} {b:MX} (F:Fun K x qual st f fd) (S:FnScope N ps (am st)) (hl:dps.length=ps.length) (hn:N.length - dps.length=n) (hd:ds0=dps++List.replicate n 0)
  (hb:∀ (cdv:Value) (A:Around) (outer:List Env) (s:Shared) (H:Hp) (E:XK),Room k (A.deeper (envOfC qual (am st) s.heap.objs.size f cdv)) →
   QSs (gX (CXr P w) P w K mg base N qual (am st) f cdv A outer s H E) (bO st) (tFX K ds0 b fun H'=>E (.ref C) none H')):FnOk P w K mg base (CXr P w) (k+1) f fd ps (spX K dps C (fnX n b)):=by
 subst hd
 obtain ⟨oc,od,kV,doc,pm,an,cdv,ct,osl,rfl,lk,hcd⟩:=F.ex
 refine zW lk hcd S (fun vs H Q E h=>om hl h) fun A outer s H vs Q E hr hsp=>?_
 exact ⟨_,(hb cdv A outer s H E hr).h,AR hn hsp⟩
theorem DH {N:List Str} {qual:Str} {scope:Scope} {f:Addr} {cd:Value} {A:Around} {outer:List Env} {s:Shared} {H:Hp} {E:XK}:Rsx (gX (CXr P w) P w K mg base N qual scope f cd A outer s H E) E:=⟨rfl,rfl,rfl,rfl,rfl⟩
end
end L2
namespace L2
open PySem PySem.Spec PyProof.Rows
def pp (i:Nat) (dps:List Nat) (F:List D→Option (D × En)) (Rz:List D→Option Unit) (fa:MA):MS:=fun en=>(fa en).bind fun r=>(b8 r.1 r.2).bind fun ts=>match F ts with
 | some q=>some (.nx ((wb r.1 q.2 r.2).set i (some q.1)))
 | none=>(Rz ts).map fun _=>.nx ((wb r.1 (dps.map fun _=>none) r.2).set i (some .none))
section
variable {X:Cx} {K:PySem.W.Frag} {J:Jd} {ds ds1 ds' dps:List Nat} {sh:Sh} {fa:MA} {F:List D→Option (D × En)} {Rz:List D→Option Unit} {C C':Addr} {bmB:List Value} {newId newId':String} {fx x y:Str} {ps:List Str} {e:Expr} {es:List Expr} {xp fp cp ap yp hp np2 xp2 ap2 pos:Pos} {i j k:Nat}
theorem Gv {pins:List (Addr × Obj)} {σ:St} {H:Hp} {s:Shared} {Q:VK} {E:XK} {sp:Sp} {t:TA} (GX:KnX X.prog X.w X.K X.mg X.base k fx ps sp) (hr:Room k X.A) (hg:Gl X fx) (ha:PA X (e :: es) t) (hdb:(fx == ("__debug__" : Str))=false) (he:aN e=true) (hpl:es.all aN=true)
  (I:Inv X pins σ H s) (h:t σ H fun vs H1=>sp (vs++[]) H1 Q E) (hx:∀ H1 s1 ev s',Inv X pins σ H1 s1→CXr X.prog X.w X.stack H1 s1 E ev s'→X.xe ev s') :
  wpAny (model X.prog X.w) X.A (eval (.Call (.Name fx fp) (e :: es) [] cp) X.env) (EP X pins σ Q) X.xe s:=by
 obtain ⟨f,fd,Ff,hm,hk,hb⟩:=GX
 refine wpAny_Call_Name_kw (gl I hg hm ?_ hdb)
 refine PySem.W.callWith_K (h₀:=X.base) I.ok.mod.kin hk (thn (ha cp pins s σ H _ I h) fun us s1 ⟨vs,H1,I1,r,q⟩=>⟨I1.kIn,?_⟩) (bQ he) (dQ hpl)
 have r2:Vals (vs++[]) (us++[]):=r.append .nil
 have hl:(us++[]).length=ps.length:=by rw [← r2.length]; exact Ff.len _ _ _ _ q
 refine wpAny_call (codeAny_mono (Ff.run X.A X.stack s1 H1 ⟨us,[]⟩ (us++[]) (vs++[]) Q E hr I1.env0 (hb s1 us I1.kIn hl) r2 q) fun r s' hq=>?_)
 cases r with
 | error ev=>exact hx H1 s1 ev s' I1 hq
 | ok fl =>
  cases fl with
  | ret u=>exact I1.after hq
  | next=>exact False.elim hq
  | brk=>exact False.elim hq
  | cont=>exact False.elim hq
def sk (X:Cx) (pins:List (Addr × Obj)) (Dn:Ends) (hs:List ExceptHandler):Value→Shared→Prop:=fun ev s' =>
 wpAny (model X.prog X.w) X.A (noteFrame ev X.env) (fun _ s2=>wpAny (model X.prog X.w) X.A (setFlight ev none) (fun _ s3=>wpAny (model X.prog X.w) X.A (handleBy ev X.env hs) (SP X pins Dn) X.xe s3) X.xe s2) X.xe s'
theorem A4 (Df:Dfx X) (GX:KnX X.prog X.w X.K X.mg X.base k fx ps (spX K dps C Rz)) (hr:Room k X.A) (hgf:Gl X fx) (ha:∀ xe,QA (X.wish xe) (e :: es) (tFA K true ds ds1 sh fa)) (hcd:dM ds1 sh dps=true) (hdf:(fx == ("__debug__" : Str))=false) (he:aN e=true) (hpl:es.all aN=true)
  (hset:∀ xe,QS (X.wish xe) (.Assign [.Name x xp] (.Call (.Name fx fp) (e :: es) [] cp) ap) (tFS K J ds ds' (aq i (ar F fa))))
  (hnon:∀ v xe,QS (X.suite v xe) (.Assign [.Name x xp2] (.Constant .none j np2) ap2) (tFS K J ds1 ds' (aq i (eC .none))))
  (hx:PySem.W.excIn X.K C bmB newId=true) (hx':PySem.W.excIn X.K C' bmB newId'=true) (hbase:bmB.contains (Value.type "BaseException")=true) (hs:jZ X.K C C'=true) (hg:Gl X y) (hm:X.mg y=some (.ref C')) (hdb:(y == ("__debug__" : Str))=false)
  (hsw:swapsWith (.Call (.Name fx fp) (e :: es) [] cp) (some (.Name x xp)) ap.line X.env=pure false) :
  QS X (.Try [.Assign [.Name x xp] (.Call (.Name fx fp) (e :: es) [] cp) ap] [.ExceptHandler (some (.Name y yp)) none [.Assign [.Name x xp2] (.Constant .none j np2) ap2] hp] [] [] pos) (tFS K J ds ds' (pp i dps F Rz fa)):=by
 refine ⟨fun pins s σ H Dn I h=>?_⟩
 obtain ⟨Ox,en,R,fl,env,hf,k⟩:=h
 unfold pp at hf
 obtain ⟨⟨as,en1⟩,h1,hf⟩:=Option.bind_eq_some_iff.mp hf
 obtain ⟨ts,h2,hf⟩:=Option.bind_eq_some_iff.mp hf
 refine wpAny_Try_except ?_
 show wpAny (model X.prog X.w) X.A (execs _ X.env) _ (sk X pins Dn [.ExceptHandler (some (.Name y yp)) none [.Assign [.Name x xp2] (.Constant .none j np2) ap2] hp]) s
 cases hF:F ts with
 | some q =>
  rw [hF] at hf
  cases hf
  have hq:aq i (ar F fa) en=some (.nx ((wb as q.2 en1).set i (some q.1))):=by
   unfold aq ar
   rw [h1]
   show ((b8 as en1).bind _).map _=_
   rw [h2]
   show ((F ts).map _).map _=_
   rw [hF]
   rfl
  refine wpAny_mono (kS (hset (sk X pins Dn [.ExceptHandler (some (.Name y yp)) none [.Assign [.Name x xp2] (.Constant .none j np2) ap2] hp])).h pins s σ H Dn (I.wish _) ⟨Ox,en,R,_,env,hq,k⟩) (fun f s1 z=>?_) fun ev s1 z=>z
  have z:=z.unwish
  cases f with
  | next=>exact wpAny_execs_nil z
  | ret v=>exact z
  | brk=>exact z
  | cont=>exact z
 | none =>
  rw [hF] at hf
  obtain ⟨u,hR,hf⟩:=Option.map_eq_some_iff.mp hf
  cases hf
  have hz:ar (rzF dps Rz) fa en=some (.none,wb as (dps.map fun _=>none) en1):=by
   unfold ar rzF
   rw [h1]
   show (b8 as en1).bind _=_
   rw [h2]
   show ((Rz ts).map _).map _=_
   rw [hR]
   rfl
  have tf:tF K (true && fg sh) ds ds1 3 (ar (rzF dps Rz) fa) σ H (fun _ H'=>Value.ref C=Value.ref C∧tFS K J ds1 ds' (aq i (eC .none)) Dn σ H'):=⟨Ox,en,R,_,_,env,hz,fun v H' R' Fz P o=>⟨rfl,⟨Ox,_,R',_,P.env0,rfl,fun σ2 H2 R2 P2=>k σ2 H2 R2 ((P.less (F':=NoA) fun _ z=>z.elim).s.after P2)⟩⟩⟩
  refine wpAny_execs_cons (wpAny_Assign_Name (thn (Gv (X:=X.wish (sk X pins Dn [.ExceptHandler (some (.Name y yp)) none [.Assign [.Name x xp2] (.Constant .none j np2) ap2] hp])) (Q:=fun _ _=>False) (E:=fun c _ H'=>c=.ref C∧tFS K J ds1 ds' (aq i (eC .none)) Dn σ H') GX hr hgf (ha _).h hdf he hpl (I.wish _) (tZ (E:=fun c _ H'=>c=.ref C∧tFS K J ds1 ds' (aq i (eC .none)) Dn σ H') hcd tf) fun H1 s1 ev s' I1 hc=>t5 Df I1.unwish hc hx hx' hbase hs hg hm hdb (fun v xe=>kS (hnon v xe).h) fun H' hG=>hG) fun v s1 ⟨_,_,_,_,z⟩=>False.elim z) hsw)
end
def vE:List Value:=[.type "ValueError",.type "Exception",.type "BaseException",.type "object"]
theorem Ac:vE.contains (Value.type "BaseException")=true:=by decide
structure ExcP (K:PySem.W.Frag) (mg:Str→Option Value) (x y:Str) (C C':Addr):Prop where
 m:mg x=some (.ref C)
 m':mg y=some (.ref C')
 hx:PySem.W.excIn K C vE "ValueError.__new__"=true
 hx':PySem.W.excIn K C' vE "ValueError.__new__"=true
 hs:jZ K C C'=true
section
variable {P:Program} {w:World} {K:PySem.W.Frag} {mg:Str→Option Value} {base h:Heap} {k dr:Nat} {x:Str} {ps:List Str} {dps:List Nat} {f:Addr} {st:Stmt} {sp:Sp}
theorem Df.knX (d:Df K x st f) (X:K.In h) (G:h.Ns mainGlobals mg) (b:∀ (kV doc pm:Value) (an:Option Addr) (cdv ct:Value) (us:List Value),us.length=ps.length→bindArgs (PySem.W.fnOf x x (cM st) (bO st) (am st) .none kV doc pm an cdv ct) ⟨us,[]⟩=pure (ps.zip us))
  (ok:∀ fd,Fun K x x st f fd→FnOk P w K mg base (CXr P w) k f fd ps sp):KnX P w K mg base k x ps sp:=by
 obtain ⟨_,_,_,_,_,_,_,_,_,l,c⟩:=d.l
 have F:=no (st:=st) l c d.k
 exact ⟨_,_,ok _ F,PySem.W.mg_of X G d.a,d.k,F.binds b⟩
end
end L2
namespace W29
open PySem L2
def top (i:Nat):Stmt:=PySem.Challenge.pw_wordrules_k29_numbers_of_words.main.body.getD i (.Pass ⟨0,0,0,0⟩)
structure Bl (mg:Str→Option Value):Prop where
 abs0:mg "abs"=none
 all0:mg "all"=none
 bool0:mg "bool"=none
 enumerate0:mg "enumerate"=none
 int0:mg "int"=none
 isinstance0:mg "isinstance"=none
 len0:mg "len"=none
 list0:mg "list"=none
 max0:mg "max"=none
 min0:mg "min"=none
 range0:mg "range"=none
 str0:mg "str"=none
 sum0:mg "sum"=none
 tuple0:mg "tuple"=none
section
variable {P:Program} {w:World} {K:PySem.W.Frag} {mg:Str→Option Value} {base:Heap} {f:Addr} {fd:FuncData}
abbrev iL:Stmt:=top 3
abbrev l8:List Str:=["tongue"]
theorem scsigns_of:FnScope l8 ["tongue"] (am iL):=⟨rfl,rfl,rfl,by decide +kernel,rfl,by decide +kernel,by decide +kernel⟩
def iV:MS:=(aC (eM joinD (eC (.str "")) (ae (ac 0) ah)))
def ca:List D→Option (D × En):=fnF 0 [0] iV
theorem pA {k:Nat} (T:Bl mg)   (F:Fun K "signs_of" "signs_of" iL f fd):FnOk P w K mg base CX0 (k+1) f fd ["tongue"] (spF K [0] 3 ca):=by
 have nd:=scsigns_of.nd
 refine F.okQ (N:=l8) (b:=iV) (J:=⟨[],[0],3,[]⟩) (ds0:=[0]) scsigns_of rfl rfl rfl rfl fun cdv A outer s H E hr=>?_
 exact (ao (ay (eF (K:=K) rfl PySem.F.slot_str_join PySem.F.type_str_join (i3 rfl) i9 a9 (ad (aa (i:=0) rfl (.inl rfl) rfl rfl rfl) af rfl) rfl rfl rfl rfl rfl rfl) rfl))
abbrev hC:Stmt:=top 2
abbrev jT:List Str:=["tongue", "thing", "signs"]
theorem scis_word:FnScope jT ["tongue", "thing"] (am hC):=⟨rfl,rfl,rfl,by decide +kernel,rfl,by decide +kernel,by decide +kernel⟩
def kI:ME:=(e2 tm (ac 0) (ac 1))
def jX:MS:=(ak (sIf (bOr (cW (tV (e1 (aM "str") (ac 1)))) (tV (e2 gtI (eN br (ae (ac 1) ah)) (eC (.int 60))))) (aC (eC (.bool false))) bq)
 (ak (aq 2 (ar ca (ae (ac 0) ah)))
 (aC (eN lx (ae (eLC true (bt (ac 1)) (gN 0) cY kI [none,some 2]) ah)))))
def cn:List D→Option (D × En):=fnF 1 [0,0] jX
theorem qM {k:Nat} (T:Bl mg) {fF:Tok} (fQ:mg "MOST_SIGNS_OF_A_WORD"=some (.int 60 fF)) (iQ:Kn P w K mg base k "signs_of" ["tongue"] (spF K [0] 3 ca)) (F:Fun K "is_word" "is_word" hC f fd):FnOk P w K mg base CX0 (k+1) f fd ["tongue", "thing"] (spF K [0,0] 3 cn):=by
 have nd:=scis_word.nd
 refine F.okQ (N:=jT) (b:=jX) (J:=⟨[],[0,0,0],3,[]⟩) (ds0:=[0,0,0]) scis_word rfl rfl rfl rfl fun cdv A outer s H E hr=>?_
 exact (ag (bx (ds2:=[0,0,0]) (qpt (gn (cA (bS (jJ (K:=K) (n:="str") rfl rfl T.isinstance0 rfl T.str0 (by decide +kernel) (by decide) (aa (i:=1) rfl (.inl rfl) rfl rfl rfl) (by decide) rfl rfl rfl rfl) (fun _=>rfl))) (gP (aT zU (aI (cq (K:=K) rfl) rfl T.len0 (by decide +kernel) (ad (aa (i:=1) rfl (.inl rfl) rfl rfl rfl) af rfl) rfl (by decide) rfl rfl rfl) (pY rfl fQ rfl) (a7 _))))) (ao (ay ja rfl)) bp)
  (ag (al (i:=2) (d:=0) (ds':=[0,0,0]) nd rfl (.inr rfl) (aj (d':=0) (aP iQ hr rfl (ad (aa (i:=0) rfl (.inl rfl) rfl rfl rfl) af rfl) rfl rfl rfl rfl rfl) (by decide)) rfl (by decide) (by decide) rfl (.inl rfl))
  (ao (ay (aI (EU (K:=K) rfl rfl) rfl T.all0 (by decide +kernel) (ad (aj (d':=0) (cv (cd:=3) (d:=3) (dsi:=[0,0]) (lk:=[1]) (BlkOkC.of (ns:=["sign", "signs"]) (js:=[none,some 2]) (N0:=jT) (sc0:=am hC) rfl rfl (by decide +kernel)) rfl (bz (K:=K) rfl (aa (i:=1) rfl (.inl rfl) rfl rfl rfl)) (fun _ _ _ _ _=>(aD (i:=0) (ds':=[0,0]) (show (["sign", "signs"]:List Str).Nodup by decide +kernel) rfl (.inl rfl) rfl (by decide) (by decide) (.inr rfl))) (fun _ _ _ _ _=>bo) (fun _ _ _ _ _=>(dm ET (aa (i:=0) rfl (.inl rfl) rfl rfl rfl) (aa (i:=1) rfl (.inr (.inl rfl)) rfl rfl rfl) (by with_unfolding_all rfl))) rfl rfl (by decide) rfl (fun _=>rfl)) (by decide)) af rfl) rfl (by decide) rfl rfl rfl) rfl))))
abbrev je:Stmt:=top 4
abbrev lB:List Str:=["tongue", "word", "signs"]
theorem scrow_of:FnScope lB ["tongue", "word"] (am je):=⟨rfl,rfl,rfl,by decide +kernel,rfl,by decide +kernel,by decide +kernel⟩
def me:ME:=(eM ki (ac 1) (ae (ac 0) ah))
def lD:MS:=(ak (aq 2 (ar ca (ae (ac 0) ah)))
 (aC (eLC true (bt (ac 1)) (gN 0) cY me [none,some 2])))
def cO:List D→Option (D × En):=fnF 1 [0,0] lD
theorem sI {k:Nat} (T:Bl mg)  (iQ:Kn P w K mg base k "signs_of" ["tongue"] (spF K [0] 3 ca)) (F:Fun K "row_of" "row_of" je f fd):FnOk P w K mg base CX0 (k+1) f fd ["tongue", "word"] (spF K [0,0] 3 cO):=by
 have nd:=scrow_of.nd
 refine F.okQ (N:=lB) (b:=lD) (J:=⟨[],[0,0,0],3,[]⟩) (ds0:=[0,0,0]) scrow_of rfl rfl rfl rfl fun cdv A outer s H E hr=>?_
 exact (ag (al (i:=2) (d:=0) (ds':=[0,0,0]) nd rfl (.inr rfl) (aj (d':=0) (aP iQ hr rfl (ad (aa (i:=0) rfl (.inl rfl) rfl rfl rfl) af rfl) rfl rfl rfl rfl rfl) (by decide)) rfl (by decide) (by decide) rfl (.inl rfl))
  (ao (ay (cv (cd:=3) (d:=3) (dsi:=[0,0]) (lk:=[1]) (BlkOkC.of (ns:=["sign", "signs"]) (js:=[none,some 2]) (N0:=lB) (sc0:=am je) rfl rfl (by decide +kernel)) rfl (bz (K:=K) rfl (aa (i:=1) rfl (.inl rfl) rfl rfl rfl)) (fun _ _ _ _ _=>(aD (i:=0) (ds':=[0,0]) (show (["sign", "signs"]:List Str).Nodup by decide +kernel) rfl (.inl rfl) rfl (by decide) (by decide) (.inr rfl))) (fun _ _ _ _ _=>bo) (fun _ _ _ _ _=>(eF (K:=K) rfl PySem.F.slot_str_index PySem.F.type_str_index sN tL (aa (i:=1) rfl (.inr (.inl rfl)) rfl rfl rfl) (ad (aa (i:=0) rfl (.inl rfl) rfl rfl rfl) af rfl) rfl rfl rfl rfl rfl rfl)) rfl rfl (by decide) rfl (fun _=>rfl)) rfl)))
abbrev lA:Stmt:=top 6
abbrev oX:List Str:=["machine", "stand"]
theorem scis_end:FnScope oX ["machine", "stand"] (am lA):=⟨rfl,rfl,rfl,by decide +kernel,rfl,by decide +kernel,by decide +kernel⟩
def jg:MS:=(aC (jN (e2 cV (ac 1) (eC .none)) (e2 ixA (e2 ixA (ac 0) (eC (.int 0))) (ac 1))))
def dZ:List D→Option (D × En):=fnF 0 [0,0] jg
theorem sJ {k:Nat} (T:Bl mg)   (F:Fun K "is_end" "is_end" lA f fd):FnOk P w K mg base CX0 (k+1) f fd ["machine", "stand"] (spF K [0,0] 0 dZ):=by
 have nd:=scis_end.nd
 refine F.okQ (N:=oX) (b:=jg) (J:=⟨[],[0,0],0,[]⟩) (ds0:=[0,0]) scis_end rfl rfl rfl rfl fun cdv A outer s H E hr=>?_
 exact (ao (ay (nw (dm gp (aa (i:=1) rfl (.inl rfl) rfl rfl rfl) bA (a7 _)) (jI (aH (a8 (K:=K) rfl) (aH (a8 (K:=K) rfl) (aa (i:=0) rfl (.inl rfl) rfl rfl rfl) ai (fun _ _=>rfl)) (aa (i:=1) rfl (.inl rfl) rfl rfl rfl) (fun _ _=>rfl)))) rfl))
abbrev uf:Stmt:=top 7
abbrev FA:List Str:=["machine", "stand", "sign"]
theorem scled:FnScope FA ["machine", "stand", "sign"] (am uf):=⟨rfl,rfl,rfl,by decide +kernel,rfl,by decide +kernel,by decide +kernel⟩
def qr:MS:=(aC (eIf (tV (e2 isN (ac 1) (eC .none))) (eC .none) (e2 ixA (e2 ixA (e2 ixA (ac 0) (eC (.int 1))) (ac 1)) (ac 2))))
def jW:List D→Option (D × En):=fnF 0 [0,0,0] qr
theorem FP {k:Nat} (T:Bl mg)   (F:Fun K "led" "led" uf f fd):FnOk P w K mg base CX0 (k+1) f fd ["machine", "stand", "sign"] (spF K [0,0,0] 0 jW):=by
 have nd:=scled.nd
 refine F.okQ (N:=FA) (b:=qr) (J:=⟨[],[0,0,0],0,[]⟩) (ds0:=[0,0,0]) scled rfl rfl rfl rfl fun cdv A outer s H E hr=>?_
 exact (ao (ay (k8 (aT nr (aa (i:=1) rfl (.inl rfl) rfl rfl rfl) bA (a7 _)) (aj (d':=0) bA (by decide)) (aH (a8 (K:=K) rfl) (aH (a8 (K:=K) rfl) (aH (a8 (K:=K) rfl) (aa (i:=0) rfl (.inl rfl) rfl rfl rfl) ai (fun _ _=>rfl)) (aa (i:=1) rfl (.inl rfl) rfl rfl rfl) (fun _ _=>rfl)) (aa (i:=2) rfl (.inl rfl) rfl rfl rfl) (fun _ _=>rfl))) rfl))
abbrev qb:Stmt:=top 8
abbrev Aa:List Str:=["machine", "stand", "row", "here", "sign"]
theorem scgone:FnScope Aa ["machine", "stand", "row"] (am qb):=⟨rfl,rfl,rfl,by decide +kernel,rfl,by decide +kernel,by decide +kernel⟩
def oY:MS:=(aq 3 (ar jW (ae (ac 0) (ae (ac 3) (ae (ac 4) ah)))))
def qt:MS:=(ak (aq 3 (ac 1))
 (ak (dk (bt (ac 2)) (gN 4) oY)
 (aC (ac 3))))
def jf:List D→Option (D × En):=fnF 2 [0,0,0] qt
theorem D7 {k:Nat} (T:Bl mg)  (GV:Kn P w K mg base k "led" ["machine", "stand", "sign"] (spF K [0,0,0] 0 jW)) (F:Fun K "gone" "gone" qb f fd):FnOk P w K mg base CX0 (k+1) f fd ["machine", "stand", "row"] (spF K [0,0,0] 0 jf):=by
 have nd:=scgone.nd
 refine F.okQ (N:=Aa) (b:=qt) (J:=⟨[],[0,0,0,0,0],0,[]⟩) (ds0:=[0,0,0,0,0]) scgone rfl rfl rfl rfl fun cdv A outer s H E hr=>?_
 exact (ag (al (i:=3) (d:=0) (ds':=[0,0,0,0,0]) nd rfl (.inl rfl) (aa (i:=1) rfl (.inl rfl) rfl rfl rfl) rfl (by decide) (by decide) rfl (.inl rfl))
  (ag (cB (ds1:=[0,0,0,0,0]) rfl (bz (K:=K) rfl (aa (i:=2) rfl (.inl rfl) rfl rfl rfl)) (aD (i:=4) (ds':=[0,0,0,0,0]) nd rfl (.inl rfl) rfl (by decide) (by decide) (.inl rfl)) (ao (al (i:=3) (d:=0) (ds':=[0,0,0,0,0]) nd rfl (.inl rfl) (aP GV hr rfl (ad (aa (i:=0) rfl (.inl rfl) rfl rfl rfl) (ad (aa (i:=3) rfl (.inl rfl) rfl rfl rfl) (ad (aa (i:=4) rfl (.inl rfl) rfl rfl rfl) af rfl) rfl) rfl) rfl rfl rfl rfl rfl) rfl (by decide) (by decide) rfl (.inl rfl))) PassesOwn.never (fun _=>rfl))
  (ao (ay (aa (i:=3) rfl (.inl rfl) rfl rfl rfl) rfl))))
abbrev qa:Stmt:=top 9
abbrev zZ:List Str:=["machine", "row"]
theorem sclets:FnScope zZ ["machine", "row"] (am qa):=⟨rfl,rfl,rfl,by decide +kernel,rfl,by decide +kernel,by decide +kernel⟩
def qp:MS:=(aC (ar dZ (ae (ac 0) (ae (ar jf (ae (ac 0) (ae (eC (.int 0)) (ae (ac 1) ah)))) ah))))
def eX:List D→Option (D × En):=fnF 0 [0,0] qp
theorem D6 {k:Nat} (T:Bl mg)  (BH:Kn P w K mg base k "is_end" ["machine", "stand"] (spF K [0,0] 0 dZ)) (Gx:Kn P w K mg base k "gone" ["machine", "stand", "row"] (spF K [0,0,0] 0 jf)) (F:Fun K "lets" "lets" qa f fd):FnOk P w K mg base CX0 (k+1) f fd ["machine", "row"] (spF K [0,0] 0 eX):=by
 have nd:=sclets.nd
 refine F.okQ (N:=zZ) (b:=qp) (J:=⟨[],[0,0],0,[]⟩) (ds0:=[0,0]) sclets rfl rfl rfl rfl fun cdv A outer s H E hr=>?_
 exact (ao (ay (aP BH hr rfl (ad (aa (i:=0) rfl (.inl rfl) rfl rfl rfl) (ad (aP Gx hr rfl (ad (aa (i:=0) rfl (.inl rfl) rfl rfl rfl) (ad (aj (d':=0) ai (by decide)) (ad (aa (i:=1) rfl (.inl rfl) rfl rfl rfl) af rfl) rfl) rfl) rfl rfl rfl rfl rfl) af rfl) rfl) rfl rfl rfl rfl rfl) rfl))
abbrev cj:Stmt:=top 12
abbrev dq:List Str:=["machine"]
theorem scnumbers_of_none:FnScope dq ["machine"] (am cj):=⟨rfl,rfl,rfl,by decide +kernel,rfl,by decide +kernel,by decide +kernel⟩
def iR:ME:=(eIf (tV (ac 0)) (eC (.int 1)) (eC (.int 0)))
def bN:MS:=(aC (eLC true (bt (e2 ixA (ac 0) (eC (.int 0)))) (gN 0) cY iR [none]))
def bd:List D→Option (D × En):=fnF 0 [0] bN
theorem jh {k:Nat} (T:Bl mg)   (F:Fun K "numbers_of_none" "numbers_of_none" cj f fd):FnOk P w K mg base CX0 (k+1) f fd ["machine"] (spF K [0] 3 bd):=by
 have nd:=scnumbers_of_none.nd
 refine F.okQ (N:=dq) (b:=bN) (J:=⟨[],[0],3,[]⟩) (ds0:=[0]) scnumbers_of_none rfl rfl rfl rfl fun cdv A outer s H E hr=>?_
 exact (ao (ay (cv (cd:=3) (d:=3) (dsi:=[0]) (lk:=[]) (BlkOkC.of (ns:=["end"]) (js:=[none]) (N0:=dq) (sc0:=am cj) rfl rfl (by decide +kernel)) rfl (bz (K:=K) rfl (aH (a8 (K:=K) rfl) (aa (i:=0) rfl (.inl rfl) rfl rfl rfl) ai (fun _ _=>rfl))) (fun _ _ _ _ _=>(aD (i:=0) (ds':=[0]) (show (["end"]:List Str).Nodup by decide +kernel) rfl (.inl rfl) rfl (by decide) (by decide) (.inr rfl))) (fun _ _ _ _ _=>bo) (fun _ _ _ _ _=>(k8 (bS (aa (i:=0) rfl (.inl rfl) rfl rfl rfl) (fun _=>rfl)) ai ai)) rfl rfl (by decide) rfl (fun _=>rfl)) rfl))
abbrev bI:Stmt:=top 13
abbrev ck:List Str:=["machine", "fewer"]
theorem scnumbers_of_one_more:FnScope ck ["machine", "fewer"] (am bI):=⟨rfl,rfl,rfl,by decide +kernel,rfl,by decide +kernel,by decide +kernel⟩
def fX:MT:=(tV (e2 cV (ac 0) (eC .none)))
def gc:ME:=(e2 ixA (ac 1) (ac 0))
def gb:ME:=(eN fK (ae (eLC true (bt (ac 0)) (gN 0) fX gc [none,some 1]) ah))
def bj:MS:=(aC (eLC true (bt (e2 ixA (ac 0) (eC (.int 1)))) (gN 0) cY gb [none,some 1]))
def aS:List D→Option (D × En):=fnF 0 [0,0] bj
theorem gj {k:Nat} (T:Bl mg)   (F:Fun K "numbers_of_one_more" "numbers_of_one_more" bI f fd):FnOk P w K mg base CX0 (k+1) f fd ["machine", "fewer"] (spF K [0,0] 3 aS):=by
 have nd:=scnumbers_of_one_more.nd
 refine F.okQ (N:=ck) (b:=bj) (J:=⟨[],[0,0],3,[]⟩) (ds0:=[0,0]) scnumbers_of_one_more rfl rfl rfl rfl fun cdv A outer s H E hr=>?_
 exact (ao (ay (cv (cd:=3) (d:=3) (dsi:=[0,0]) (lk:=[1]) (BlkOkC.of (ns:=["ways", "fewer"]) (js:=[none,some 1]) (N0:=ck) (sc0:=am bI) rfl rfl (by decide +kernel)) rfl (bz (K:=K) rfl (aH (a8 (K:=K) rfl) (aa (i:=0) rfl (.inl rfl) rfl rfl rfl) ai (fun _ _=>rfl))) (fun _ _ _ _ _=>(aD (i:=0) (ds':=[0,0]) (show (["ways", "fewer"]:List Str).Nodup by decide +kernel) rfl (.inl rfl) rfl (by decide) (by decide) (.inr rfl))) (fun _ _ _ _ _=>bo) (fun _ _ _ _ _=>(aI (nq (K:=K) rfl rfl) rfl T.sum0 (by decide +kernel) (ad (aj (d':=0) (cv (cd:=0) (d:=1) (dsi:=[0,0]) (lk:=[1]) (BlkOkC.inn (ns:=["there", "fewer"]) (js:=[none,some 1]) (N0:=["ways", "fewer"]) rfl rfl (by decide +kernel)) rfl (bz (K:=K) rfl (aa (i:=0) rfl (.inl rfl) rfl rfl rfl)) (fun _ _ _ _ _=>(aD (i:=0) (ds':=[0,0]) (show (["there", "fewer"]:List Str).Nodup by decide +kernel) rfl (.inl rfl) rfl (by decide) (by decide) (.inr rfl))) (fun _ _ _ _ _=>(rp (aT gp (aa (i:=0) rfl (.inl rfl) rfl rfl rfl) bA (a7 _)))) (fun _ _ _ _ _=>(aH (a8 (K:=K) rfl) (aa (i:=1) rfl (.inr (.inl rfl)) rfl rfl rfl) (aa (i:=0) rfl (.inl rfl) rfl rfl rfl) (fun _ _=>rfl))) rfl rfl (by decide) rfl (fun _=>rfl)) (by decide)) af rfl) rfl (by decide) rfl rfl rfl)) rfl rfl (by decide) rfl (fun _=>rfl)) rfl))
abbrev nK:Stmt:=top 11
abbrev r6:List Str:=["machine", "most", "lists"]
theorem sctable:FnScope r6 ["machine", "most"] (am nK):=⟨rfl,rfl,rfl,by decide +kernel,rfl,by decide +kernel,by decide +kernel⟩
def uh:MS:=(bY (bZ 2 (ar aS (ae (ac 0) (ae (cC 2 (e1 kX (eC (.int 1)))) ah)))))
def ud:MT:=(tV (e2 leI (eN br (ae (ac 2) ah)) (ac 1)))
noncomputable def iU:MS:=(ak (aq 2 (ba (ae (ar bd (ae (ac 0) ah)) ah)))
 (ak (bG ud uh)
 (aC (ac 2))))
noncomputable def eG:List D→Option (D × En):=fnF 1 [0,0] iU
theorem AC {k:Nat} (T:Bl mg)  (jU:Kn P w K mg base k "numbers_of_none" ["machine"] (spF K [0] 3 bd)) (ib:Kn P w K mg base k "numbers_of_one_more" ["machine", "fewer"] (spF K [0,0] 3 aS)) (F:Fun K "table" "table" nK f fd):FnOk P w K mg base CX0 (k+1) f fd ["machine", "most"] (spF K [0,0] 0 eG):=by
 have nd:=sctable.nd
 refine F.okQ (N:=r6) (b:=iU) (J:=⟨[],[0,0,0],0,[]⟩) (ds0:=[0,0,0]) sctable rfl rfl rfl rfl fun cdv A outer s H E hr=>?_
 exact (ag (al (i:=2) (d:=1) (ds':=[0,0,1]) nd rfl (.inl rfl) (aj (d':=1) (bf (d:=3) (c:=3) (ad (aP jU hr rfl (ad (aa (i:=0) rfl (.inl rfl) rfl rfl rfl) af rfl) rfl rfl rfl rfl rfl) af rfl) rfl rfl (by decide)) (by decide)) rfl (by decide) (by decide) rfl (.inl rfl))
  (ag (jo (ds:=[0,0,1]) (rz (ds0:=[0,0,0]) (aT zT (aI (cq (K:=K) rfl) rfl T.len0 (by decide +kernel) (ad (aa (i:=2) rfl (.inl rfl) rfl rfl rfl) af rfl) rfl (by decide) rfl rfl rfl) (aa (i:=1) rfl (.inl rfl) rfl rfl rfl) (a7 _)) rfl) (ao (eD (gS (K:=K) (i:=2) (d:=1) rfl rfl (.inl rfl) rfl (aj (d':=0) (aP ib hr rfl (ad (aa (i:=0) rfl (.inl rfl) rfl rfl rfl) (ad (tR (K:=K) (i:=2) rfl rfl (.inl rfl) rfl (Bo EQ ai) (fun _ _=>rfl) rfl rfl) af rfl) rfl) rfl rfl rfl rfl rfl) (by decide)) (by decide) rfl rfl rfl rfl rfl rfl rfl rfl) rfl)) PassesOwn.never)
  (ao (ay (gq (ds0:=[0,0,0]) (aa (p:=false) (i:=2) rfl (.inl rfl) rfl rfl rfl) rfl) rfl))))
abbrev jS:Stmt:=top 19
abbrev nM:List Str:=["machine", "stand", "sign", "behind", "there"]
theorem scrows_by:FnScope nM ["machine", "stand", "sign", "behind"] (am jS):=⟨rfl,rfl,rfl,by decide +kernel,rfl,by decide +kernel,by decide +kernel⟩
def ie:MS:=(ak (aq 4 (e2 ixA (e2 ixA (e2 ixA (ac 0) (eC (.int 1))) (ac 1)) (ac 2)))
 (aC (eIf (tV (e2 isN (ac 4) (eC .none))) (eC (.int 0)) (e2 ixA (ac 3) (ac 4)))))
def du:List D→Option (D × En):=fnF 1 [0,0,0,0] ie
theorem qL {k:Nat} (T:Bl mg)   (F:Fun K "rows_by" "rows_by" jS f fd):FnOk P w K mg base CX0 (k+1) f fd ["machine", "stand", "sign", "behind"] (spF K [0,0,0,0] 0 du):=by
 have nd:=scrows_by.nd
 refine F.okQ (N:=nM) (b:=ie) (J:=⟨[],[0,0,0,0,0],0,[]⟩) (ds0:=[0,0,0,0,0]) scrows_by rfl rfl rfl rfl fun cdv A outer s H E hr=>?_
 exact (ag (al (i:=4) (d:=0) (ds':=[0,0,0,0,0]) nd rfl (.inl rfl) (aH (a8 (K:=K) rfl) (aH (a8 (K:=K) rfl) (aH (a8 (K:=K) rfl) (aa (i:=0) rfl (.inl rfl) rfl rfl rfl) ai (fun _ _=>rfl)) (aa (i:=1) rfl (.inl rfl) rfl rfl rfl) (fun _ _=>rfl)) (aa (i:=2) rfl (.inl rfl) rfl rfl rfl) (fun _ _=>rfl)) rfl (by decide) (by decide) rfl (.inl rfl))
  (ao (ay (k8 (aT nr (aa (i:=4) rfl (.inl rfl) rfl rfl rfl) bA (a7 _)) (aj (d':=0) ai (by decide)) (aH (a8 (K:=K) rfl) (aa (i:=3) rfl (.inl rfl) rfl rfl rfl) (aa (i:=4) rfl (.inl rfl) rfl rfl rfl) (fun _ _=>rfl))) rfl)))
abbrev ek:Stmt:=top 21
abbrev ga:List Str:=["machine", "lists", "row", "many", "here", "place", "sign", "behind"]
theorem scrows_ahead:FnScope ga ["machine", "lists", "row"] (am ek):=⟨rfl,rfl,rfl,by decide +kernel,rfl,by decide +kernel,by decide +kernel⟩
def ip:ME:=(ar du (ae (ac 1) (ae (ac 2) (ae (ac 0) (ae (ac 3) ah)))))
def io:MS:=(ak (aq 7 (e2 ixA (ac 1) (e2 gA (e2 gA (eN br (ae (ac 2) ah)) (ac 5)) (eC (.int 1)))))
 (ak (aq 3 (e2 aY (ac 3) (eN fK (ae (eLC true (bu (ae (ac 6) ah)) (gN 0) cY ip [none,some 0,some 4,some 7]) ah))))
 (aq 4 (e2 ixA (e2 ixA (e2 ixA (ac 0) (eC (.int 1))) (ac 4)) (ac 6)))))
def ge:MS:=(ak (aq 3 (eC (.int 0)))
 (ak (aq 4 (eC (.int 0)))
 (ak (dk (iA (ae (ac 2) ah)) (gT (gsC (gN 5) (gsC (gN 6) gs0))) io)
 (aC (ac 3)))))
def bW:List D→Option (D × En):=fnF 5 [0,0,0] ge
theorem mT {k:Nat} (T:Bl mg)  (ui:Kn P w K mg base k "rows_by" ["machine", "stand", "sign", "behind"] (spF K [0,0,0,0] 0 du)) (F:Fun K "rows_ahead" "rows_ahead" ek f fd):FnOk P w K mg base CX0 (k+1) f fd ["machine", "lists", "row"] (spF K [0,0,0] 0 bW):=by
 have nd:=scrows_ahead.nd
 refine F.okQ (N:=ga) (b:=ge) (J:=⟨[],[0,0,0,0,0,0,0,0],0,[]⟩) (ds0:=[0,0,0,0,0,0,0,0]) scrows_ahead rfl rfl rfl rfl fun cdv A outer s H E hr=>?_
 exact (ag (al (i:=3) (d:=0) (ds':=[0,0,0,0,0,0,0,0]) nd rfl (.inl rfl) (aj (d':=0) ai (by decide)) rfl (by decide) (by decide) rfl (.inl rfl))
  (ag (al (i:=4) (d:=0) (ds':=[0,0,0,0,0,0,0,0]) nd rfl (.inr rfl) (aj (d':=0) ai (by decide)) rfl (by decide) (by decide) rfl (.inl rfl))
  (ag (cB (ds1:=[0,0,0,0,0,0,0,0]) rfl (rG (K:=K) rfl rfl T.enumerate0 (ad (aa (i:=2) rfl (.inl rfl) rfl rfl rfl) af rfl) rfl) (rJ (K:=K) rfl rfl (jp (aD (i:=5) (ds':=[0,0,0,0,0,0,0,0]) nd rfl (.inl rfl) rfl (by decide) (by decide) (.inl rfl)) (jp (aD (i:=6) (ds':=[0,0,0,0,0,0,0,0]) nd rfl (.inl rfl) rfl (by decide) (by decide) (.inl rfl)) pW rfl) rfl) AN rfl rfl) (ag (al (i:=7) (d:=0) (ds':=[0,0,0,0,0,0,0,0]) nd rfl (.inr rfl) (aH (a8 (K:=K) rfl) (aa (i:=1) rfl (.inl rfl) rfl rfl rfl) (ax kl (ax kl (aI (cq (K:=K) rfl) rfl T.len0 (by decide +kernel) (ad (aa (i:=2) rfl (.inl rfl) rfl rfl rfl) af rfl) rfl (by decide) rfl rfl rfl) (aa (i:=5) rfl (.inl rfl) rfl rfl rfl)) ai) (fun _ _=>rfl)) rfl (by decide) (by decide) rfl (.inl rfl))
  (ag (al (i:=3) (d:=0) (ds':=[0,0,0,0,0,0,0,0]) nd rfl (.inl rfl) (aj (d':=0) (ax bM (aa (i:=3) rfl (.inl rfl) rfl rfl rfl) (aI (nq (K:=K) rfl rfl) rfl T.sum0 (by decide +kernel) (ad (aj (d':=0) (cv (cd:=0) (d:=1) (dsi:=[0,0,0,0]) (lk:=[1,2,3]) (BlkOkC.of (ns:=["lesser", "machine", "here", "behind"]) (js:=[none,some 0,some 4,some 7]) (N0:=ga) (sc0:=am ek) rfl rfl (by decide +kernel)) rfl (dA rfl T.range0 (ad (aa (i:=6) rfl (.inl rfl) rfl rfl rfl) af rfl) rfl) (fun _ _ _ _ _=>(aD (i:=0) (ds':=[0,0,0,0]) (show (["lesser", "machine", "here", "behind"]:List Str).Nodup by decide +kernel) rfl (.inl rfl) rfl (by decide) (by decide) (.inr rfl))) (fun _ _ _ _ _=>bo) (fun _ _ _ _ _=>(aP ui hr rfl (ad (aa (i:=1) rfl (.inr (.inl rfl)) rfl rfl rfl) (ad (aa (i:=2) rfl (.inr (.inl rfl)) rfl rfl rfl) (ad (aa (i:=0) rfl (.inl rfl) rfl rfl rfl) (ad (aa (i:=3) rfl (.inr (.inl rfl)) rfl rfl rfl) af rfl) rfl) rfl) rfl) rfl rfl rfl rfl rfl)) rfl rfl (by decide) rfl (fun _=>rfl)) (by decide)) af rfl) rfl (by decide) rfl rfl rfl)) (by decide)) rfl (by decide) (by decide) rfl (.inl rfl))
  (ao (al (i:=4) (d:=0) (ds':=[0,0,0,0,0,0,0,0]) nd rfl (.inr rfl) (aH (a8 (K:=K) rfl) (aH (a8 (K:=K) rfl) (aH (a8 (K:=K) rfl) (aa (i:=0) rfl (.inr (.inl rfl)) rfl rfl rfl) ai (fun _ _=>rfl)) (aa (i:=4) rfl (.inr (.inl rfl)) rfl rfl rfl) (fun _ _=>rfl)) (aa (i:=6) rfl (.inl rfl) rfl rfl rfl) (fun _ _=>rfl)) rfl (by decide) (by decide) rfl (.inl rfl))))) PassesOwn.never (fun _=>rfl))
  (ao (ay (aa (i:=3) rfl (.inl rfl) rfl rfl rfl) rfl)))))
abbrev dN:Stmt:=top 20
abbrev eW:List Str:=["tongue", "machine", "word", "row", "lists", "shorter"]
theorem scnumber_of:FnScope eW ["tongue", "machine", "word"] (am dN):=⟨rfl,rfl,rfl,by decide +kernel,rfl,by decide +kernel,by decide +kernel⟩
noncomputable def iS:ME:=(e2 ixA (ac 0) (eC (.int 0)))
noncomputable def eY:MS:=(ak (sIf (cW (tV (ar cn (ae (ac 0) (ae (ac 2) ah))))) dD bq)
 (ak (aq 3 (ar cO (ae (ac 0) (ae (ac 2) ah))))
 (ak (sIf (cW (tV (ar eX (ae (ac 1) (ae (ac 3) ah))))) dD bq)
 (ak (aq 4 (ar eG (ae (ac 1) (ae (eN br (ae (ac 3) ah)) ah))))
 (ak (aq 5 (eN fK (ae (eLC true (bt (eSl kt (ac 4) iZ (gE (eN br (ae (ac 3) ah))))) (gN 0) cY iS [none]) ah)))
 (aC (e2 aY (ac 5) (ar bW (ae (ac 1) (ae (ac 4) (ae (ac 3) ah)))))))))))
noncomputable def bJ:List D→Option (D × En):=fnF 3 [0,0,0] eY
theorem nP {k:Nat} (T:Bl mg)  (lC:Kn P w K mg base k "row_of" ["tongue", "word"] (spF K [0,0] 3 cO)) (r9:Kn P w K mg base k "table" ["machine", "most"] (spF K [0,0] 0 eG)) (jV:Kn P w K mg base k "is_word" ["tongue", "thing"] (spF K [0,0] 3 cn)) (qh:Kn P w K mg base k "lets" ["machine", "row"] (spF K [0,0] 0 eX)) (jv:Kn P w K mg base k "rows_ahead" ["machine", "lists", "row"] (spF K [0,0,0] 0 bW)) (F:Fun K "number_of" "number_of" dN f fd):FnOk P w K mg base CX0 (k+1) f fd ["tongue", "machine", "word"] (spF K [0,0,0] 3 bJ):=by
 have nd:=scnumber_of.nd
 refine F.okQ (N:=eW) (b:=eY) (J:=⟨[],[0,0,0,0,0,0],3,[]⟩) (ds0:=[0,0,0,0,0,0]) scnumber_of rfl rfl rfl rfl fun cdv A outer s H E hr=>?_
 exact (ag (bx (ds2:=[0,0,0,0,0,0]) (cA (bS (aP jV hr rfl (ad (aa (i:=0) rfl (.inl rfl) rfl rfl rfl) (ad (aa (i:=2) rfl (.inl rfl) rfl rfl rfl) af rfl) rfl) rfl rfl rfl rfl rfl) (fun _=>rfl))) (ao fS) bp)
  (ag (al (i:=3) (d:=0) (ds':=[0,0,0,0,0,0]) nd rfl (.inl rfl) (aj (d':=0) (aP lC hr rfl (ad (aa (i:=0) rfl (.inl rfl) rfl rfl rfl) (ad (aa (i:=2) rfl (.inl rfl) rfl rfl rfl) af rfl) rfl) rfl rfl rfl rfl rfl) (by decide)) rfl (by decide) (by decide) rfl (.inl rfl))
  (ag (bx (ds2:=[0,0,0,0,0,0]) (cA (bS (aP qh hr rfl (ad (aa (i:=1) rfl (.inl rfl) rfl rfl rfl) (ad (aa (i:=3) rfl (.inl rfl) rfl rfl rfl) af rfl) rfl) rfl rfl rfl rfl rfl) (fun _=>rfl))) (ao fS) bp)
  (ag (al (i:=4) (d:=0) (ds':=[0,0,0,0,0,0]) nd rfl (.inl rfl) (aP r9 hr rfl (ad (aa (i:=1) rfl (.inl rfl) rfl rfl rfl) (ad (aj (d':=0) (aI (cq (K:=K) rfl) rfl T.len0 (by decide +kernel) (ad (aa (i:=3) rfl (.inl rfl) rfl rfl rfl) af rfl) rfl (by decide) rfl rfl rfl) (by decide)) af rfl) rfl) rfl rfl rfl rfl rfl) rfl (by decide) (by decide) rfl (.inl rfl))
  (ag (al (i:=5) (d:=0) (ds':=[0,0,0,0,0,0]) nd rfl (.inl rfl) (aj (d':=0) (aI (nq (K:=K) rfl rfl) rfl T.sum0 (by decide +kernel) (ad (aj (d':=0) (cv (cd:=0) (d:=1) (dsi:=[0]) (lk:=[]) (BlkOkC.of (ns:=["numbers"]) (js:=[none]) (N0:=eW) (sc0:=am dN) rfl rfl (by decide +kernel)) rfl (bz (K:=K) rfl (aj (d':=0) (gR (k7 (K:=K) rfl) (aa (i:=4) rfl (.inl rfl) rfl rfl rfl) iF (iE (aI (cq (K:=K) rfl) rfl T.len0 (by decide +kernel) (ad (aa (i:=3) rfl (.inl rfl) rfl rfl rfl) af rfl) rfl (by decide) rfl rfl rfl))) (by decide))) (fun _ _ _ _ _=>(aD (i:=0) (ds':=[0]) (show (["numbers"]:List Str).Nodup by decide +kernel) rfl (.inl rfl) rfl (by decide) (by decide) (.inr rfl))) (fun _ _ _ _ _=>bo) (fun _ _ _ _ _=>(aH (a8 (K:=K) rfl) (aa (i:=0) rfl (.inl rfl) rfl rfl rfl) ai (fun _ _=>rfl))) rfl rfl (by decide) rfl (fun _=>rfl)) (by decide)) af rfl) rfl (by decide) rfl rfl rfl) (by decide)) rfl (by decide) (by decide) rfl (.inl rfl))
  (ao (ay (ax bM (aa (i:=5) rfl (.inl rfl) rfl rfl rfl) (aP jv hr rfl (ad (aa (i:=1) rfl (.inl rfl) rfl rfl rfl) (ad (aa (i:=4) rfl (.inl rfl) rfl rfl rfl) (ad (aa (i:=3) rfl (.inl rfl) rfl rfl rfl) af rfl) rfl) rfl) rfl rfl rfl rfl rfl)) rfl)))))))
noncomputable def gf:MX:=(kL (sIf (cW (tV (ar cn (ae (ac 0) (ae (ac 2) ah))))) dD bq)
 (kL (aq 3 (ar cO (ae (ac 0) (ae (ac 2) ah))))
 (xIf (cW (tV (ar eX (ae (ac 1) (ae (ac 3) ah))))) BI)))
noncomputable def ci:List D→Option Unit:=fnX 3 gf
theorem nZ {k:Nat} {C:Addr} (T:Bl mg)  (lC:Kn P w K mg base k "row_of" ["tongue", "word"] (spF K [0,0] 3 cO)) (r9:Kn P w K mg base k "table" ["machine", "most"] (spF K [0,0] 0 eG)) (jV:Kn P w K mg base k "is_word" ["tongue", "thing"] (spF K [0,0] 3 cn)) (qh:Kn P w K mg base k "lets" ["machine", "row"] (spF K [0,0] 0 eX)) (jv:Kn P w K mg base k "rows_ahead" ["machine", "lists", "row"] (spF K [0,0,0] 0 bW)) (F:Fun K "number_of" "number_of" dN f fd) (m:mg "NoFit"=some (.ref C)) (hx:PySem.W.excIn K C vE "ValueError.__new__"=true):FnOk P w K mg base (CXr P w) (k+1) f fd ["tongue", "machine", "word"] (spX K [0,0,0] C ci):=by
 have nd:=scnumber_of.nd
 refine F.okX (N:=eW) (b:=gf) (ds0:=[0,0,0,0,0,0]) scnumber_of rfl rfl rfl fun cdv A outer s H E hr=>?_
 exact (oP (J:=⟨[],[0,0,0,0,0,0],3,[]⟩) (bx (ds2:=[0,0,0,0,0,0]) (cA (bS (aP jV hr rfl (ad (aa (i:=0) rfl (.inl rfl) rfl rfl rfl) (ad (aa (i:=2) rfl (.inl rfl) rfl rfl rfl) af rfl) rfl) rfl rfl rfl rfl rfl) (fun _=>rfl))) (ao fS) bp)
  (oP (J:=⟨[],[0,0,0,0,0,0],3,[]⟩) (al (i:=3) (d:=0) (ds':=[0,0,0,0,0,0]) nd rfl (.inl rfl) (aj (d':=0) (aP lC hr rfl (ad (aa (i:=0) rfl (.inl rfl) rfl rfl rfl) (ad (aa (i:=2) rfl (.inl rfl) rfl rfl rfl) af rfl) rfl) rfl rfl rfl rfl rfl) (by decide)) rfl (by decide) (by decide) rfl (.inl rfl))
  (rn (FY (p:=false) (cA (bS (aP qh hr rfl (ad (aa (i:=1) rfl (.inl rfl) rfl rfl rfl) (ad (aa (i:=3) rfl (.inl rfl) rfl rfl rfl) af rfl) rfl) rfl rfl rfl rfl rfl) (fun _=>rfl))) (rn (tq DH PySem.F.excBase_ValueError hx rfl m rfl))))))
abbrev iM:Stmt:=top 23
abbrev l9:List Str:=["_law_script", "_law_first"]
theorem sc_law_pen:FnScope l9 ["_law_script", "_law_first"] (am iM):=⟨rfl,rfl,rfl,by decide +kernel,rfl,by decide +kernel,by decide +kernel⟩
def dB:MS:=(aC (jb [((eC (.str "script")),(ac 0)),((eC (.str "at")),(ac 1)),((eC (.str "left")),(eC (.int 0)))]))
def bV:List D→Option (D × En):=fnF 0 [0,0] dB
theorem pB {k:Nat} (T:Bl mg)   (F:Fun K "_law_pen" "_law_pen" iM f fd):FnOk P w K mg base CX0 (k+1) f fd ["_law_script", "_law_first"] (spF K [0,0] 1 bV):=by
 have nd:=sc_law_pen.nd
 refine F.okQ (N:=l9) (b:=dB) (J:=⟨[],[0,0],1,[]⟩) (ds0:=[0,0]) sc_law_pen rfl rfl rfl rfl fun cdv A outer s H E hr=>?_
 exact (ao (ay (rK (fs:=[((eC (.str "script")),(ac 0)),((eC (.str "at")),(ac 1)),((eC (.str "left")),(eC (.int 0)))]) (iD a9 (aa (i:=0) rfl (.inl rfl) rfl rfl rfl) (iD a9 (aa (i:=1) rfl (.inl rfl) rfl rfl rfl) (iD a9 (aj (d':=0) ai (by decide)) tI))) rfl rfl (fun z=>nomatch z) (by decide)) rfl))
abbrev fZ:Stmt:=top 24
abbrev ju:List Str:=["_law_cell", "_law_k", "_law_one", "_law_two"]
theorem sc_law_mixed:FnScope ju ["_law_cell", "_law_k"] (am fZ):=⟨rfl,rfl,rfl,by decide +kernel,rfl,by decide +kernel,by decide +kernel⟩
def c9:MS:=(ak (aq 2 (e2 be (e2 bE (e2 aY (e2 aY (e2 be (ac 0) (eC (.int 2147483629))) (e2 bE (eC (.int 40503)) (ac 1))) (eC (.int 24691))) (eC (.int 48271))) (eC (.int 2147483647))))
 (ak (aq 3 (e2 be (e2 aY (e2 aY (e2 bE (ac 2) (ac 2)) (e2 bE (eC (.int 69621)) (ac 2))) (ac 1)) (eC (.int 2147483629))))
 (aC (e2 cg (e2 be (e2 aY (e2 aY (e2 bE (ac 3) (ac 3)) (e2 bE (eC (.int 16807)) (ac 3))) (e2 bE (eC (.int 31)) (ac 1))) (eC (.int 1073741789))) (eC (.int 64))))))
def bK:List D→Option (D × En):=fnF 2 [0,0] c9
theorem mV {k:Nat} (T:Bl mg)   (F:Fun K "_law_mixed" "_law_mixed" fZ f fd):FnOk P w K mg base CX0 (k+1) f fd ["_law_cell", "_law_k"] (spF K [0,0] 3 bK):=by
 have nd:=sc_law_mixed.nd
 refine F.okQ (N:=ju) (b:=c9) (J:=⟨[],[0,0,0,0],3,[]⟩) (ds0:=[0,0,0,0]) sc_law_mixed rfl rfl rfl rfl fun cdv A outer s H E hr=>?_
 exact (ag (al (i:=2) (d:=0) (ds':=[0,0,0,0]) nd rfl (.inl rfl) (aj (d':=0) (ax fm (ax eE (ax bM (ax bM (ax fm (aa (i:=0) rfl (.inl rfl) rfl rfl rfl) ai) (ax eE ai (aa (i:=1) rfl (.inl rfl) rfl rfl rfl))) ai) ai) ai) (by decide)) rfl (by decide) (by decide) rfl (.inl rfl))
  (ag (al (i:=3) (d:=0) (ds':=[0,0,0,0]) nd rfl (.inl rfl) (aj (d':=0) (ax fm (ax bM (ax bM (ax eE (aa (i:=2) rfl (.inl rfl) rfl rfl rfl) (aa (i:=2) rfl (.inl rfl) rfl rfl rfl)) (ax eE ai (aa (i:=2) rfl (.inl rfl) rfl rfl rfl))) (aa (i:=1) rfl (.inl rfl) rfl rfl rfl)) ai) (by decide)) rfl (by decide) (by decide) rfl (.inl rfl))
  (ao (ay (ax oQ (ax fm (ax bM (ax bM (ax eE (aa (i:=3) rfl (.inl rfl) rfl rfl rfl) (aa (i:=3) rfl (.inl rfl) rfl rfl rfl)) (ax eE ai (aa (i:=3) rfl (.inl rfl) rfl rfl rfl))) (ax eE ai (aa (i:=1) rfl (.inl rfl) rfl rfl rfl))) ai) ai) rfl))))
abbrev hV:Stmt:=top 25
abbrev kC:List Str:=["_law_pen_here", "_law_most", "_law_k", "_law_script", "_law_cell", "_law_got"]
theorem sc_law_take:FnScope kC ["_law_pen_here", "_law_most"] (am hV):=⟨rfl,rfl,rfl,by decide +kernel,rfl,by decide +kernel,by decide +kernel⟩
def eZ:MS:=(ak (aq 2 (bv 0 (eC (.str "at"))))
 (ak (aq 3 (bv 0 (eC (.str "script"))))
 (ak (sIf (tV (e2 eqD (bv 0 (eC (.str "left"))) (eC (.int 0)))) (ak (cz 0 (eC (.str "at")) (e2 aY (ac 2) (eC (.int 1))))
 (ak (aq 4 (eC (.int 0)))
 (ak (sIf (tV (e2 gtI (eN br (ae (ac 3) ah)) (eC (.int 0)))) (aq 4 (e2 ixA (ac 3) (e2 be (ac 2) (eN br (ae (ac 3) ah))))) bq)
 (ak (sIf (bOr (tV (e2 geI (ac 2) (eN br (ae (ac 3) ah)))) (tV (e2 ltI (eN gY (ae (ac 4) ah)) (e2 kT (eC (.int 10)) (eC (.int 18)))))) (aC (e2 be (ar bK (ae (ac 4) (ae (ac 2) ah))) (ac 1))) bq)
 (cz 0 (eC (.str "left")) (eN gY (ae (ac 4) ah))))))) bq)
 (ak (aq 5 (e2 be (bv 0 (eC (.str "left"))) (ac 1)))
 (ak (cz 0 (eC (.str "left")) (e2 cg (bv 0 (eC (.str "left"))) (ac 1)))
 (aC (ac 5)))))))
def aw:List D→Option (D × En):=fnF 4 [1,0] eZ
theorem nR {k:Nat} (T:Bl mg)  (n9:Kn P w K mg base k "_law_mixed" ["_law_cell", "_law_k"] (spF K [0,0] 3 bK)) (F:Fun K "_law_take" "_law_take" hV f fd):FnOk P w K mg base CX0 (k+1) f fd ["_law_pen_here", "_law_most"] (spF K [1,0] 0 aw):=by
 have nd:=sc_law_take.nd
 refine F.okQ (N:=kC) (b:=eZ) (J:=⟨[0],[1,0,0,0,0,0],0,[]⟩) (ds0:=[1,0,0,0,0,0]) sc_law_take rfl rfl rfl rfl fun cdv A outer s H E hr=>?_
 exact (ag (al (i:=2) (d:=0) (ds':=[1,0,0,0,0,0]) nd rfl (.inl rfl) (dI (i:=0) (fI hr) rfl (.inl rfl) rfl a9 (fun _ _=>rfl) rfl rfl) rfl (by decide) (by decide) rfl (.inl rfl))
  (ag (al (i:=3) (d:=0) (ds':=[1,0,0,0,0,0]) nd rfl (.inl rfl) (dI (i:=0) (fI hr) rfl (.inl rfl) rfl a9 (fun _ _=>rfl) rfl rfl) rfl (by decide) (by decide) rfl (.inl rfl))
  (ag (bx (ds2:=[1,0,0,0,0,0]) (aT (i8 (K:=K) rfl hr.units) (dI (i:=0) (fI hr) rfl (.inl rfl) rfl a9 (fun _ _=>rfl) rfl rfl) ai (a7 _)) (ag (gQ (i:=0) (fI hr) rfl (.inl rfl) (aj (d':=0) (ax bM (aa (i:=2) rfl (.inl rfl) rfl rfl rfl) ai) (by decide)) a9 rfl rfl rfl rfl)
  (ag (al (i:=4) (d:=0) (ds':=[1,0,0,0,0,0]) nd rfl (.inl rfl) (aj (d':=0) ai (by decide)) rfl (by decide) (by decide) rfl (.inl rfl))
  (ag (bx (ds2:=[1,0,0,0,0,0]) (aT zU (aI (cq (K:=K) rfl) rfl T.len0 (by decide +kernel) (ad (aa (i:=3) rfl (.inl rfl) rfl rfl rfl) af rfl) rfl (by decide) rfl rfl rfl) ai (a7 _)) (ao (al (i:=4) (d:=0) (ds':=[1,0,0,0,0,0]) nd rfl (.inl rfl) (aH (a8 (K:=K) rfl) (aa (i:=3) rfl (.inl rfl) rfl rfl rfl) (ax fm (aa (i:=2) rfl (.inl rfl) rfl rfl rfl) (aI (cq (K:=K) rfl) rfl T.len0 (by decide +kernel) (ad (aa (i:=3) rfl (.inl rfl) rfl rfl rfl) af rfl) rfl (by decide) rfl rfl rfl)) (fun _ _=>rfl)) rfl (by decide) (by decide) rfl (.inl rfl))) bp)
  (ag (bx (ds2:=[1,0,0,0,0,0]) (qpt (gn (aT zV (aa (i:=2) rfl (.inl rfl) rfl rfl rfl) (aI (cq (K:=K) rfl) rfl T.len0 (by decide +kernel) (ad (aa (i:=3) rfl (.inl rfl) rfl rfl rfl) af rfl) rfl (by decide) rfl rfl rfl) (a7 _)) (gP (aT zS (aI rE rfl T.abs0 (by decide +kernel) (ad (aa (i:=4) rfl (.inl rfl) rfl rfl rfl) af rfl) rfl (by decide) rfl rfl rfl) (ax EO ai ai) (a7 _))))) (ao (ay (aj (d':=0) (ax fm (aP n9 hr rfl (ad (aa (i:=4) rfl (.inl rfl) rfl rfl rfl) (ad (aa (i:=2) rfl (.inl rfl) rfl rfl rfl) af rfl) rfl) rfl rfl rfl rfl rfl) (aa (i:=1) rfl (.inl rfl) rfl rfl rfl)) (by decide)) rfl)) bp)
  (ao (gQ (i:=0) (fI hr) rfl (.inl rfl) (aj (d':=0) (aI rE rfl T.abs0 (by decide +kernel) (ad (aa (i:=4) rfl (.inl rfl) rfl rfl rfl) af rfl) rfl (by decide) rfl rfl rfl) (by decide)) a9 rfl rfl rfl rfl)))))) bp)
  (ag (al (i:=5) (d:=0) (ds':=[1,0,0,0,0,0]) nd rfl (.inl rfl) (aj (d':=0) (ax fm (dI (i:=0) (fI hr) rfl (.inl rfl) rfl a9 (fun _ _=>rfl) rfl rfl) (aa (i:=1) rfl (.inl rfl) rfl rfl rfl)) (by decide)) rfl (by decide) (by decide) rfl (.inl rfl))
  (ag (gQ (i:=0) (fI hr) rfl (.inl rfl) (aj (d':=0) (ax oQ (dI (i:=0) (fI hr) rfl (.inl rfl) rfl a9 (fun _ _=>rfl) rfl rfl) (aa (i:=1) rfl (.inl rfl) rfl rfl rfl)) (by decide)) a9 rfl rfl rfl rfl)
  (ao (ay (aa (i:=5) rfl (.inl rfl) rfl rfl rfl) rfl)))))))
abbrev fY:Stmt:=top 26
abbrev jr:List Str:=["_law_pen_here"]
theorem sc_law_signs:FnScope jr ["_law_pen_here"] (am fY):=⟨rfl,rfl,rfl,by decide +kernel,rfl,by decide +kernel,by decide +kernel⟩
def eo:MS:=(aC (e2 ixA (ba (ae (eC (.int 2)) (ae (eC (.int 1)) (ae (eC (.int 3)) (ae (eC (.int 2)) (ae (eC (.int 4)) (ae (eC (.int 3)) (ae (eC (.int 2)) (ae (e2 aY (eC (.int 5)) (ar aw (aL 0 (ae (eC (.int 8)) ah)))) ah))))))))) (ar aw (aL 0 (ae (eC (.int 8)) ah)))))
def cx:List D→Option (D × En):=fnF 0 [1] eo
theorem mU {k:Nat} (T:Bl mg)  (bc:Kn P w K mg base k "_law_take" ["_law_pen_here", "_law_most"] (spF K [1,0] 0 aw)) (F:Fun K "_law_signs" "_law_signs" fY f fd):FnOk P w K mg base CX0 (k+1) f fd ["_law_pen_here"] (spF K [1] 0 cx):=by
 have nd:=sc_law_signs.nd
 refine F.okQ (N:=jr) (b:=eo) (J:=⟨[0],[1],0,[]⟩) (ds0:=[1]) sc_law_signs rfl rfl rfl rfl fun cdv A outer s H E hr=>?_
 exact (ao (ay (aH (a8 (K:=K) rfl) (bf (d:=3) (c:=3) (ad ai (ad ai (ad ai (ad ai (ad ai (ad ai (ad ai (ad (ax bM ai (bF bc hr rfl (bb (i:=0) rfl (.inl rfl) (ad (aj (d':=0) ai (by decide)) af rfl) rfl rfl) rfl rfl rfl rfl)) af rfl) rfl) rfl) rfl) rfl) rfl) rfl) rfl) rfl rfl (by decide)) (bF bc hr rfl (bb (i:=0) rfl (.inl rfl) (ad (aj (d':=0) ai (by decide)) af rfl) rfl rfl) rfl rfl rfl rfl) (fun _ _=>rfl)) rfl))
abbrev h9:Stmt:=top 27
abbrev kG:List Str:=["_law_pen_here", "_law_stand", "_law_stands", "_law_way", "_law_goal_here"]
theorem sc_law_goal:FnScope kG ["_law_pen_here", "_law_stand", "_law_stands", "_law_way"] (am h9):=⟨rfl,rfl,rfl,by decide +kernel,rfl,by decide +kernel,by decide +kernel⟩
def cT:MS:=(ak (aq 4 (ar aw (aL 0 (ae (e2 aY (ac 2) (eC (.int 1))) ah))))
 (ak (sIf (bOr (tV (e2 eqD (ac 4) (ac 2))) (cE (tV (e2 eqD (ac 3) (eC (.int 1)))) (tV (e2 leI (ac 4) (ac 1))))) (aC (eC .none)) bq)
 (aC (ac 4))))
def bi:List D→Option (D × En):=fnF 1 [1,0,0,0] cT
theorem nW {k:Nat} (T:Bl mg)  (bc:Kn P w K mg base k "_law_take" ["_law_pen_here", "_law_most"] (spF K [1,0] 0 aw)) (F:Fun K "_law_goal" "_law_goal" h9 f fd):FnOk P w K mg base CX0 (k+1) f fd ["_law_pen_here", "_law_stand", "_law_stands", "_law_way"] (spF K [1,0,0,0] 0 bi):=by
 have nd:=sc_law_goal.nd
 refine F.okQ (N:=kG) (b:=cT) (J:=⟨[0],[1,0,0,0,0],0,[]⟩) (ds0:=[1,0,0,0,0]) sc_law_goal rfl rfl rfl rfl fun cdv A outer s H E hr=>?_
 exact (ag (al (i:=4) (d:=0) (ds':=[1,0,0,0,0]) nd rfl (.inl rfl) (bF bc hr rfl (bb (i:=0) rfl (.inl rfl) (ad (aj (d':=0) (ax bM (aa (i:=2) rfl (.inl rfl) rfl rfl rfl) ai) (by decide)) af rfl) rfl rfl) rfl rfl rfl rfl) rfl (by decide) (by decide) rfl (.inl rfl))
  (ag (bx (ds2:=[1,0,0,0,0]) (qpt (gn (aT (i8 (K:=K) rfl hr.units) (aa (i:=4) rfl (.inl rfl) rfl rfl rfl) (aa (i:=2) rfl (.inl rfl) rfl rfl rfl) (a7 _)) (gP (qpt (nk (aT (i8 (K:=K) rfl hr.units) (aa (i:=3) rfl (.inl rfl) rfl rfl rfl) ai (a7 _)) (lU (aT zT (aa (i:=4) rfl (.inl rfl) rfl rfl rfl) (aa (i:=1) rfl (.inl rfl) rfl rfl rfl) (a7 _)))))))) (ao (ay (aj (d':=0) bA (by decide)) rfl)) bp)
  (ao (ay (aa (i:=4) rfl (.inl rfl) rfl rfl rfl) rfl))))
abbrev cr:Stmt:=top 28
abbrev dh:List Str:=["_law_pen_here", "_law_signs_here", "_law_most", "_law_stands", "_law_way", "_law_fence", "_law_ends", "_law_goes", "_law_stand", "_law_row"]
theorem sc_law_machine:FnScope dh ["_law_pen_here", "_law_signs_here", "_law_most"] (am cr):=⟨rfl,rfl,rfl,by decide +kernel,rfl,by decide +kernel,by decide +kernel⟩
def kK:ME:=(ar bi (aL 1 (ae (ac 4) (ae (ac 2) (ae (ac 3) ah)))))
def kJ:ME:=(e2 ixA (ba (ae (ac 0) (ae (eC .none) ah))) (eN gK (ae (eOr (e2 isN (ac 0) (eC .none)) (e2 geI (ac 0) (ac 1))) ah)))
def kH:MS:=(ak (bY (bZ 6 (e2 eqD (ar aw (aL 0 (ae (eC (.int 3)) ah))) (eC (.int 0)))))
 (ak (aq 9 (eLC false (bu (ae (ac 1) ah)) (gN 0) cY kK [none,some 0,some 3,some 4,some 8]))
 (ak (sIf (cE (tV (e2 eqD (ac 4) (eC (.int 2)))) (tV (e2 ltI (ac 8) (ac 5)))) (ak (dC 6 (ac 8) (eC (.bool false)))
 (aq 9 (eLC true (bt (ac 9)) (gN 0) cY kJ [none,some 5]))) bq)
 (bY (bZ 7 (ac 9))))))
def cu:MS:=(ak (aq 3 (e2 aY (eC (.int 1)) (ar aw (aL 0 (ae (ac 2) ah)))))
 (ak (aq 4 (ar aw (aL 0 (ae (eC (.int 4)) ah))))
 (ak (aq 5 (e2 aY (eC (.int 1)) (ar aw (aL 0 (ae (ac 3) ah)))))
 (ak (aq 6 (ba ah))
 (ak (aq 7 (ba ah))
 (ak (dk (bu (ae (ac 3) ah)) (gN 8) kH)
 (aC (fT (ae (ac 6) (ae (ac 7) ah))))))))))
def bP:List D→Option (D × En):=fnF 7 [1,0,0] cu
theorem kU {k:Nat} (T:Bl mg)  (bc:Kn P w K mg base k "_law_take" ["_law_pen_here", "_law_most"] (spF K [1,0] 0 aw)) (qm:Kn P w K mg base k "_law_goal" ["_law_pen_here", "_law_stand", "_law_stands", "_law_way"] (spF K [1,0,0,0] 0 bi)) (F:Fun K "_law_machine" "_law_machine" cr f fd):FnOk P w K mg base CX0 (k+1) f fd ["_law_pen_here", "_law_signs_here", "_law_most"] (spF K [1,0,0] 0 bP):=by
 have nd:=sc_law_machine.nd
 refine F.okQ (N:=dh) (b:=cu) (J:=⟨[0],[1,0,0,0,0,0,0,0,0,0],0,[]⟩) (ds0:=[1,0,0,0,0,0,0,0,0,0]) sc_law_machine rfl rfl rfl rfl fun cdv A outer s H E hr=>?_
 exact (ag (al (i:=3) (d:=0) (ds':=[1,0,0,0,0,0,0,0,0,0]) nd rfl (.inr rfl) (aj (d':=0) (ax bM ai (bF bc hr rfl (bb (i:=0) rfl (.inr (.inl rfl)) (ad (aa (i:=2) rfl (.inl rfl) rfl rfl rfl) af rfl) rfl rfl) rfl rfl rfl rfl)) (by decide)) rfl (by decide) (by decide) rfl (.inl rfl))
  (ag (al (i:=4) (d:=0) (ds':=[1,0,0,0,0,0,0,0,0,0]) nd rfl (.inr rfl) (bF bc hr rfl (bb (i:=0) rfl (.inr (.inl rfl)) (ad (aj (d':=0) ai (by decide)) af rfl) rfl rfl) rfl rfl rfl rfl) rfl (by decide) (by decide) rfl (.inl rfl))
  (ag (al (i:=5) (d:=0) (ds':=[1,0,0,0,0,0,0,0,0,0]) nd rfl (.inr rfl) (aj (d':=0) (ax bM ai (bF bc hr rfl (bb (i:=0) rfl (.inr (.inl rfl)) (ad (aa (i:=3) rfl (.inr (.inl rfl)) rfl rfl rfl) af rfl) rfl rfl) rfl rfl rfl rfl)) (by decide)) rfl (by decide) (by decide) rfl (.inl rfl))
  (ag (al (i:=6) (d:=1) (ds':=[1,0,0,0,0,0,1,0,0,0]) nd rfl (.inl rfl) (aj (d':=1) (bf (d:=3) (c:=3) af rfl rfl (by decide)) (by decide)) rfl (by decide) (by decide) rfl (.inl rfl))
  (ag (al (i:=7) (d:=1) (ds':=[1,0,0,0,0,0,1,1,0,0]) nd rfl (.inl rfl) (aj (d':=1) (bf (d:=3) (c:=3) af rfl rfl (by decide)) (by decide)) rfl (by decide) (by decide) rfl (.inl rfl))
  (ag (cB (ds1:=[1,0,0,0,0,0,1,1,0,0]) rfl (dA rfl T.range0 (ad (aa (i:=3) rfl (.inr (.inl rfl)) rfl rfl rfl) af rfl) rfl) (aD (i:=8) (ds':=[1,0,0,0,0,0,1,1,0,0]) nd rfl (.inr rfl) rfl (by decide) (by decide) (.inl rfl)) (ag (eD (gS (K:=K) (i:=6) (d:=1) rfl rfl (.inl rfl) rfl (aj (d':=0) (dm (i8 (K:=K) rfl hr.units) (bF bc hr rfl (bb (i:=0) rfl (.inr (.inl rfl)) (ad (aj (d':=0) ai (by decide)) af rfl) rfl rfl) rfl rfl rfl rfl) ai (a7 _)) (by decide)) (by decide) rfl rfl rfl rfl rfl rfl rfl rfl) rfl)
  (ag (iC (ds1:=[1,0,0,0,0,0,1,1,0,0]) (fR (i:=9) (ds':=[1,0,0,0,0,0,1,1,0,1]) (cd:=0) (d:=1) (dsi:=[0,1,0,0,0]) (lk:=[1,2,3,4]) nd rfl rfl (BlkOkC.of (ns:=["_law_number", "_law_pen_here", "_law_stands", "_law_way", "_law_stand"]) (js:=[none,some 0,some 3,some 4,some 8]) (N0:=dh) (sc0:=am cr) rfl rfl (by decide +kernel)) rfl (dA rfl T.range0 (ad (aa (i:=1) rfl (.inl rfl) rfl rfl rfl) af rfl) rfl) (fun _ _ _ _ _=>(aD (i:=0) (ds':=[0,1,0,0,0]) (show (["_law_number", "_law_pen_here", "_law_stands", "_law_way", "_law_stand"]:List Str).Nodup by decide +kernel) rfl (.inl rfl) rfl (by decide) (by decide) (.inr rfl))) (fun _ _ _ _ _=>bo) (fun _ _ _ _ _=>(bF qm hr rfl (bb (i:=1) rfl (.inr (.inl rfl)) (ad (aa (i:=4) rfl (.inr (.inl rfl)) rfl rfl rfl) (ad (aa (i:=2) rfl (.inr (.inl rfl)) rfl rfl rfl) (ad (aa (i:=3) rfl (.inr (.inl rfl)) rfl rfl rfl) af rfl) rfl) rfl) rfl rfl) rfl rfl rfl rfl)) rfl rfl rfl (by decide) rfl (by decide) (by decide) rfl (fun _=>rfl)) rfl)
  (ag (bx (ds2:=[1,0,0,0,0,0,1,1,0,0]) (qpt (nk (aT (i8 (K:=K) rfl hr.units) (aa (i:=4) rfl (.inr (.inl rfl)) rfl rfl rfl) ai (a7 _)) (lU (aT zS (aa (i:=8) rfl (.inr (.inl rfl)) rfl rfl rfl) (aa (i:=5) rfl (.inr (.inl rfl)) rfl rfl rfl) (a7 _))))) (ag (pV (i:=6) (d:=1) (c:=0) rfl (.inl rfl) (aj (d':=0) ja (by decide)) (aa (i:=8) rfl (.inr (.inl rfl)) rfl rfl rfl) rfl (by decide) rfl rfl rfl (fun _=>rfl) rfl rfl rfl)
  (ao (iC (ds1:=[1,0,0,0,0,0,1,1,0,0]) (fR (i:=9) (ds':=[1,0,0,0,0,0,1,1,0,1]) (cd:=0) (d:=1) (dsi:=[0,0]) (lk:=[1]) nd rfl rfl (BlkOkC.of (ns:=["_law_goal_here", "_law_fence"]) (js:=[none,some 5]) (N0:=dh) (sc0:=am cr) rfl rfl (by decide +kernel)) rfl (bz (K:=K) rfl (aa (i:=9) rfl (.inl rfl) rfl rfl rfl)) (fun _ _ _ _ _=>(aD (i:=0) (ds':=[0,0]) (show (["_law_goal_here", "_law_fence"]:List Str).Nodup by decide +kernel) rfl (.inl rfl) rfl (by decide) (by decide) (.inr rfl))) (fun _ _ _ _ _=>bo) (fun _ _ _ _ _=>(aH (a8 (K:=K) rfl) (bf (d:=1) (c:=0) (ad (aa (i:=0) rfl (.inl rfl) rfl rfl rfl) (ad bA af rfl) rfl) rfl rfl (by decide)) (cw ES rfl T.int0 (by decide +kernel) (ad (aj (d':=0) (Bq (dm nr (aa (i:=0) rfl (.inl rfl) rfl rfl rfl) bA (a7 _)) (jI (dm zV (aa (i:=0) rfl (.inl rfl) rfl rfl rfl) (aa (i:=1) rfl (.inr (.inl rfl)) rfl rfl rfl) (a7 _)))) (by decide)) af rfl) rfl (by decide) rfl rfl rfl) (fun _ _=>rfl))) rfl rfl rfl (by decide) rfl (by decide) (by decide) rfl (fun _=>rfl)) rfl))) bp)
  (ao (eD (gS (K:=K) (i:=7) (d:=1) rfl rfl (.inl rfl) rfl (aa (i:=9) rfl (.inl rfl) rfl rfl rfl) (by decide) rfl rfl rfl rfl rfl rfl rfl rfl) rfl))))) PassesOwn.never (fun _=>rfl))
  (ao (ay (nu (d:=0) (c:=0) (ad (gq (ds0:=[1,0,0,0,0,0,0,1,0,0]) (aa (p:=false) (i:=6) rfl (.inl rfl) rfl rfl rfl) rfl) (ad (gq (ds0:=[1,0,0,0,0,0,0,0,0,0]) (aa (p:=false) (i:=7) rfl (.inl rfl) rfl rfl rfl) rfl) af rfl) rfl) rfl rfl) rfl))))))))
abbrev dO:Stmt:=top 29
abbrev fw:List Str:=["_law_pen_here", "_law_many", "_law_signs_here", "_law_left", "_law_kinds", "_law_size"]
theorem sc_law_tongue:FnScope fw ["_law_pen_here", "_law_many"] (am dO):=⟨rfl,rfl,rfl,by decide +kernel,rfl,by decide +kernel,by decide +kernel⟩
def ee:ME:=(fq 2 (ar aw (aL 1 (ae (eN br (ae (ac 2) ah)) ah))))
def dY:MS:=(ak (aq 5 (e2 aY (eC (.int 1)) (ar aw (aL 0 (ae (eN pC (ae (eC (.int 6)) (ae (eN br (ae (ac 3) ah)) ah))) ah)))))
 (ak (aq 5 (eN pE (ae (ac 5) (ae (e2 gA (eN br (ae (ac 3) ah)) (e2 bE (eC (.int 6)) (e2 gA (eC (.int 3)) (eN br (ae (ac 4) ah))))) ah))))
 (ak (bY (bZ 4 (eM joinD (eC (.str "")) (ae (eSl kt (ac 3) iZ (gE (ac 5))) ah))))
 (aq 3 (eSl kt (ac 3) (gE (ac 5)) iZ)))))
def cN:MT:=(tV (e2 neD (ac 3) (ba ah)))
noncomputable def fC:MS:=(ak (aq 2 (eN fH (ae (eC (.str "!\"#$&'()*+,-./0123456789:;<=>?\x40[\\]^_`{|}~")) ah)))
 (ak (aq 2 (e2 ly (ac 2) (eN fH (ae (eC (.str "ABCDEFGHIJKLMNOPQRSTUVWXYZabcdefghijklmnopqrstuvwxyz")) ah))))
 (ak (aq 3 (eLC false (bu (ae (ac 1) ah)) (gN 0) cY ee [none,some 0,some 2]))
 (ak (aq 4 (ba ah))
 (ak (bG cN dY)
 (aC (eN pi (ae (ac 4) ah))))))))
noncomputable def b9:List D→Option (D × En):=fnF 4 [1,0] fC
theorem mh {k:Nat} (T:Bl mg)  (bc:Kn P w K mg base k "_law_take" ["_law_pen_here", "_law_most"] (spF K [1,0] 0 aw)) (F:Fun K "_law_tongue" "_law_tongue" dO f fd):FnOk P w K mg base CX0 (k+1) f fd ["_law_pen_here", "_law_many"] (spF K [1,0] 0 b9):=by
 have nd:=sc_law_tongue.nd
 refine F.okQ (N:=fw) (b:=fC) (J:=⟨[0],[1,0,0,0,0,0],0,[]⟩) (ds0:=[1,0,0,0,0,0]) sc_law_tongue rfl rfl rfl rfl fun cdv A outer s H E hr=>?_
 exact (ag (al (i:=2) (d:=0) (ds':=[1,0,0,0,0,0]) nd rfl (.inr rfl) (aj (d':=0) (cw (i7 (K:=K) rfl rfl) rfl T.list0 (by decide +kernel) (ad (aj (d':=0) a9 (by decide)) af rfl) rfl (by decide) rfl rfl rfl) (by decide)) rfl (by decide) (by decide) rfl (.inl rfl))
  (ag (al (i:=2) (d:=1) (ds':=[1,0,1,0,0,0]) nd rfl (.inr rfl) (ax (k6 (K:=K) rfl) (aa (i:=2) rfl (.inr (.inl rfl)) rfl rfl rfl) (cw (i7 (K:=K) rfl rfl) rfl T.list0 (by decide +kernel) (ad (aj (d':=0) a9 (by decide)) af rfl) rfl (by decide) rfl rfl rfl)) rfl (by decide) (by decide) rfl (.inl rfl))
  (ag (iC (ds1:=[1,0,1,0,0,0]) (fR (i:=3) (ds':=[1,0,1,1,0,0]) (cd:=0) (d:=1) (dsi:=[0,1,1]) (lk:=[1,2]) nd rfl rfl (BlkOkC.of (ns:=["_law_k", "_law_pen_here", "_law_signs_here"]) (js:=[none,some 0,some 2]) (N0:=fw) (sc0:=am dO) rfl rfl (by decide +kernel)) rfl (dA rfl T.range0 (ad (aa (i:=1) rfl (.inl rfl) rfl rfl rfl) af rfl) rfl) (fun _ _ _ _ _=>(aD (i:=0) (ds':=[0,1,1]) (show (["_law_k", "_law_pen_here", "_law_signs_here"]:List Str).Nodup by decide +kernel) rfl (.inl rfl) rfl (by decide) (by decide) (.inr rfl))) (fun _ _ _ _ _=>bo) (fun _ _ _ _ _=>(pX (K:=K) (i:=2) (d:=1) rfl rfl (.inr (.inl rfl)) rfl (bF bc hr rfl (bb (i:=1) rfl (.inr (.inl rfl)) (ad (aj (d':=0) (nv (ds0:=[0,1,0]) (aI (cq (K:=K) rfl) rfl T.len0 (by decide +kernel) (ad (aa (i:=2) rfl (.inr (.inl rfl)) rfl rfl rfl) af rfl) rfl (by decide) rfl rfl rfl) rfl) (by decide)) af rfl) rfl rfl) rfl rfl rfl rfl) (by decide) rfl rfl rfl rfl rfl rfl rfl rfl)) rfl rfl rfl (by decide) rfl (by decide) (by decide) rfl (fun _=>rfl)) rfl)
  (ag (al (i:=4) (d:=1) (ds':=[1,0,1,0,1,0]) nd rfl (.inl rfl) (aj (d':=1) (bf (d:=3) (c:=3) af rfl rfl (by decide)) (by decide)) rfl (by decide) (by decide) rfl (.inl rfl))
  (ag (jo (ds:=[1,0,1,0,1,0]) (aT (zR (K:=K) rfl hr.units) (aa (i:=3) rfl (.inl rfl) rfl rfl rfl) (bf (d:=3) (c:=3) af rfl rfl (by decide)) (a7 _)) (ag (al (i:=5) (d:=0) (ds':=[1,0,1,0,1,0]) nd rfl (.inl rfl) (aj (d':=0) (ax bM ai (bF bc hr rfl (bb (i:=0) rfl (.inr (.inl rfl)) (ad (aj (d':=0) (aI (Be rfl) rfl T.min0 (by decide +kernel) (ad (aj (d':=0) ai (by decide)) (ad (aj (d':=0) (aI (cq (K:=K) rfl) rfl T.len0 (by decide +kernel) (ad (aa (i:=3) rfl (.inl rfl) rfl rfl rfl) af rfl) rfl (by decide) rfl rfl rfl) (by decide)) af rfl) rfl) rfl (by decide) rfl rfl rfl) (by decide)) af rfl) rfl rfl) rfl rfl rfl rfl)) (by decide)) rfl (by decide) (by decide) rfl (.inl rfl))
  (ag (al (i:=5) (d:=0) (ds':=[1,0,1,0,1,0]) nd rfl (.inl rfl) (aj (d':=0) (nv (ds0:=[1,0,1,0,0,0]) (aI (Bf rfl) rfl T.max0 (by decide +kernel) (ad (aa (i:=5) rfl (.inl rfl) rfl rfl rfl) (ad (aj (d':=0) (ax kl (aI (cq (K:=K) rfl) rfl T.len0 (by decide +kernel) (ad (aa (i:=3) rfl (.inl rfl) rfl rfl rfl) af rfl) rfl (by decide) rfl rfl rfl) (ax eE ai (ax kl ai (aI (cq (K:=K) rfl) rfl T.len0 (by decide +kernel) (ad (aa (i:=4) rfl (.inl rfl) rfl rfl rfl) af rfl) rfl (by decide) rfl rfl rfl)))) (by decide)) af rfl) rfl) rfl (by decide) rfl rfl rfl) rfl) (by decide)) rfl (by decide) (by decide) rfl (.inl rfl))
  (ag (eD (gS (K:=K) (i:=4) (d:=1) rfl rfl (.inl rfl) rfl (aj (d':=0) (eF (K:=K) rfl PySem.F.slot_str_join PySem.F.type_str_join (i3 rfl) i9 a9 (ad (aj (d':=0) (gR (k7 (K:=K) rfl) (aa (i:=3) rfl (.inl rfl) rfl rfl rfl) iF (iE (aa (i:=5) rfl (.inl rfl) rfl rfl rfl))) (by decide)) af rfl) rfl rfl rfl rfl rfl rfl) (by decide)) (by decide) rfl rfl rfl rfl rfl rfl rfl rfl) rfl)
  (ao (al (i:=3) (d:=0) (ds':=[1,0,1,0,1,0]) nd rfl (.inl rfl) (aj (d':=0) (gR (k7 (K:=K) rfl) (aa (i:=3) rfl (.inl rfl) rfl rfl rfl) (iE (aa (i:=5) rfl (.inl rfl) rfl rfl rfl)) iF) (by decide)) rfl (by decide) (by decide) rfl (.inl rfl)))))) PassesOwn.never)
  (ao (ay (cw (tK (K:=K) rfl) rfl T.tuple0 (by decide +kernel) (ad (gq (ds0:=[1,0,1,0,0,0]) (aa (p:=false) (i:=4) rfl (.inl rfl) rfl rfl rfl) rfl) af rfl) rfl (by decide) rfl rfl rfl) rfl)))))))
abbrev eV:Stmt:=top 30
abbrev ia:List Str:=["_law_signs_here", "_law_most", "_law_got", "_law_layer", "_law_size", "_law_longer", "_law_row"]
theorem sc_law_rows:FnScope ia ["_law_signs_here", "_law_most"] (am eV):=⟨rfl,rfl,rfl,by decide +kernel,rfl,by decide +kernel,by decide +kernel⟩
def iT:ME:=(e2 ly (ac 1) (ba (ae (ac 0) ah)))
def iP:MS:=(bY (jM 5 (eLC true (bu (ae (ac 0) ah)) (gN 0) cY iT [none,some 6])))
def iO:MS:=(ak (aq 5 (ba ah))
 (ak (dk (bt (ac 3)) (gN 6) iP)
 (ak (aq 3 (ac 5))
 (aq 2 (e2 ly (ac 2) (ac 3))))))
def ii:MS:=(ak (aq 2 (ba (ae (ba ah) ah)))
 (ak (aq 3 (ba (ae (ba ah) ah)))
 (ak (dk (bu (ae (ac 1) ah)) (gN 4) iO)
 (aC (ac 2)))))
def cQ:List D→Option (D × En):=fnF 5 [0,0] ii
theorem nS {k:Nat} (T:Bl mg)   (F:Fun K "_law_rows" "_law_rows" eV f fd):FnOk P w K mg base CX0 (k+1) f fd ["_law_signs_here", "_law_most"] (spF K [0,0] 0 cQ):=by
 have nd:=sc_law_rows.nd
 refine F.okQ (N:=ia) (b:=ii) (J:=⟨[],[0,0,0,0,0,0,0],0,[]⟩) (ds0:=[0,0,0,0,0,0,0]) sc_law_rows rfl rfl rfl rfl fun cdv A outer s H E hr=>?_
 exact (ag (al (i:=2) (d:=0) (ds':=[0,0,0,0,0,0,0]) nd rfl (.inl rfl) (aj (d':=0) (bf (d:=3) (c:=3) (ad (bf (d:=3) (c:=3) af rfl rfl (by decide)) af rfl) rfl rfl (by decide)) (by decide)) rfl (by decide) (by decide) rfl (.inl rfl))
  (ag (al (i:=3) (d:=0) (ds':=[0,0,0,0,0,0,0]) nd rfl (.inl rfl) (aj (d':=0) (bf (d:=3) (c:=3) (ad (bf (d:=3) (c:=3) af rfl rfl (by decide)) af rfl) rfl rfl (by decide)) (by decide)) rfl (by decide) (by decide) rfl (.inl rfl))
  (ag (cB (ds1:=[0,0,0,0,0,0,0]) rfl (dA rfl T.range0 (ad (aa (i:=1) rfl (.inl rfl) rfl rfl rfl) af rfl) rfl) (aD (i:=4) (ds':=[0,0,0,0,0,0,0]) nd rfl (.inl rfl) rfl (by decide) (by decide) (.inl rfl)) (ag (al (i:=5) (d:=1) (ds':=[0,0,0,0,0,1,0]) nd rfl (.inl rfl) (aj (d':=1) (bf (d:=3) (c:=3) af rfl rfl (by decide)) (by decide)) rfl (by decide) (by decide) rfl (.inl rfl))
  (ag (cB (ds1:=[0,0,0,0,0,1,0]) rfl (bz (K:=K) rfl (aa (i:=3) rfl (.inl rfl) rfl rfl rfl)) (aD (i:=6) (ds':=[0,0,0,0,0,1,0]) nd rfl (.inr rfl) rfl (by decide) (by decide) (.inl rfl)) (ao (eD (tT (K:=K) (i:=5) (d:=1) rfl rfl (.inl rfl) rfl (aj (d':=1) (cv (cd:=1) (d:=2) (dsi:=[0,0]) (lk:=[1]) (BlkOkC.of (ns:=["_law_number", "_law_row"]) (js:=[none,some 6]) (N0:=ia) (sc0:=am eV) rfl rfl (by decide +kernel)) rfl (dA rfl T.range0 (ad (aa (i:=0) rfl (.inl rfl) rfl rfl rfl) af rfl) rfl) (fun _ _ _ _ _=>(aD (i:=0) (ds':=[0,0]) (show (["_law_number", "_law_row"]:List Str).Nodup by decide +kernel) rfl (.inl rfl) rfl (by decide) (by decide) (.inr rfl))) (fun _ _ _ _ _=>bo) (fun _ _ _ _ _=>(ax (k6 (K:=K) rfl) (aa (i:=1) rfl (.inr (.inl rfl)) rfl rfl rfl) (bf (d:=1) (c:=0) (ad (aa (i:=0) rfl (.inl rfl) rfl rfl rfl) af rfl) rfl rfl (by decide)))) rfl rfl (by decide) rfl (fun _=>rfl)) (by decide)) (by decide) rfl rfl rfl rfl rfl rfl rfl) rfl)) PassesOwn.never (fun _=>rfl))
  (ag (al (i:=3) (d:=0) (ds':=[0,0,0,0,0,0,0]) nd rfl (.inl rfl) (gq (ds0:=[0,0,0,0,0,0,0]) (aa (p:=false) (i:=5) rfl (.inl rfl) rfl rfl rfl) rfl) rfl (by decide) (by decide) rfl (.inl rfl))
  (ao (al (i:=2) (d:=0) (ds':=[0,0,0,0,0,0,0]) nd rfl (.inl rfl) (aj (d':=0) (ax (k6 (K:=K) rfl) (aa (i:=2) rfl (.inl rfl) rfl rfl rfl) (aa (i:=3) rfl (.inl rfl) rfl rfl rfl)) (by decide)) rfl (by decide) (by decide) rfl (.inl rfl)))))) PassesOwn.never (fun _=>rfl))
  (ao (ay (aa (i:=2) rfl (.inl rfl) rfl rfl rfl) rfl)))))
abbrev hZ:Stmt:=top 31
abbrev kF:List Str:=["_law_machine_here", "_law_stand", "_law_row", "_law_number"]
theorem sc_law_gone:FnScope kF ["_law_machine_here", "_law_stand", "_law_row"] (am hZ):=⟨rfl,rfl,rfl,by decide +kernel,rfl,by decide +kernel,by decide +kernel⟩
def fy:MS:=(sIf (tV (e2 cV (ac 1) (eC .none))) (aq 1 (e2 ixA (e2 ixA (e2 ixA (ac 0) (eC (.int 1))) (ac 1)) (ac 3))) bq)
def ik:MS:=(ak (dk (bt (ac 2)) (gN 3) fy)
 (aC (ac 1)))
def cS:List D→Option (D × En):=fnF 1 [0,0,0] ik
theorem nV {k:Nat} (T:Bl mg)   (F:Fun K "_law_gone" "_law_gone" hZ f fd):FnOk P w K mg base CX0 (k+1) f fd ["_law_machine_here", "_law_stand", "_law_row"] (spF K [0,0,0] 0 cS):=by
 have nd:=sc_law_gone.nd
 refine F.okQ (N:=kF) (b:=ik) (J:=⟨[],[0,0,0,0],0,[]⟩) (ds0:=[0,0,0,0]) sc_law_gone rfl rfl rfl rfl fun cdv A outer s H E hr=>?_
 exact (ag (cB (ds1:=[0,0,0,0]) rfl (bz (K:=K) rfl (aa (i:=2) rfl (.inl rfl) rfl rfl rfl)) (aD (i:=3) (ds':=[0,0,0,0]) nd rfl (.inl rfl) rfl (by decide) (by decide) (.inl rfl)) (ao (bx (ds2:=[0,0,0,0]) (aT gp (aa (i:=1) rfl (.inl rfl) rfl rfl rfl) bA (a7 _)) (ao (al (i:=1) (d:=0) (ds':=[0,0,0,0]) nd rfl (.inl rfl) (aH (a8 (K:=K) rfl) (aH (a8 (K:=K) rfl) (aH (a8 (K:=K) rfl) (aa (i:=0) rfl (.inl rfl) rfl rfl rfl) ai (fun _ _=>rfl)) (aa (i:=1) rfl (.inl rfl) rfl rfl rfl) (fun _ _=>rfl)) (aa (i:=3) rfl (.inl rfl) rfl rfl rfl) (fun _ _=>rfl)) rfl (by decide) (by decide) rfl (.inl rfl))) bp)) PassesOwn.never (fun _=>rfl))
  (ao (ay (aa (i:=1) rfl (.inl rfl) rfl rfl rfl) rfl)))
abbrev hX:Stmt:=top 32
abbrev kE:List Str:=["_law_machine_here", "_law_row", "_law_stand"]
theorem sc_law_lets:FnScope kE ["_law_machine_here", "_law_row"] (am hX):=⟨rfl,rfl,rfl,by decide +kernel,rfl,by decide +kernel,by decide +kernel⟩
def ij:MS:=(ak (aq 2 (ar cS (ae (ac 0) (ae (eC (.int 0)) (ae (ac 1) ah)))))
 (aC (jN (e2 cV (ac 2) (eC .none)) (e2 ixA (e2 ixA (ac 0) (eC (.int 0))) (ac 2)))))
def cR:List D→Option (D × En):=fnF 1 [0,0] ij
theorem nU {k:Nat} (T:Bl mg)  (ql:Kn P w K mg base k "_law_gone" ["_law_machine_here", "_law_stand", "_law_row"] (spF K [0,0,0] 0 cS)) (F:Fun K "_law_lets" "_law_lets" hX f fd):FnOk P w K mg base CX0 (k+1) f fd ["_law_machine_here", "_law_row"] (spF K [0,0] 0 cR):=by
 have nd:=sc_law_lets.nd
 refine F.okQ (N:=kE) (b:=ij) (J:=⟨[],[0,0,0],0,[]⟩) (ds0:=[0,0,0]) sc_law_lets rfl rfl rfl rfl fun cdv A outer s H E hr=>?_
 exact (ag (al (i:=2) (d:=0) (ds':=[0,0,0]) nd rfl (.inl rfl) (aP ql hr rfl (ad (aa (i:=0) rfl (.inl rfl) rfl rfl rfl) (ad (aj (d':=0) ai (by decide)) (ad (aa (i:=1) rfl (.inl rfl) rfl rfl rfl) af rfl) rfl) rfl) rfl rfl rfl rfl rfl) rfl (by decide) (by decide) rfl (.inl rfl))
  (ao (ay (nw (dm gp (aa (i:=2) rfl (.inl rfl) rfl rfl rfl) bA (a7 _)) (jI (aH (a8 (K:=K) rfl) (aH (a8 (K:=K) rfl) (aa (i:=0) rfl (.inl rfl) rfl rfl rfl) ai (fun _ _=>rfl)) (aa (i:=2) rfl (.inl rfl) rfl rfl rfl) (fun _ _=>rfl)))) rfl)))
abbrev hU:Stmt:=top 33
abbrev kB:List Str:=["_law_tongue_here", "_law_machine_here", "_law_word", "_law_told_here"]
theorem sc_law_told:FnScope kB ["_law_tongue_here", "_law_machine_here", "_law_word"] (am hU):=⟨rfl,rfl,rfl,by decide +kernel,rfl,by decide +kernel,by decide +kernel⟩
noncomputable def ig:MS:=(ak (aq 3 (eC .none))
 (ak (pp 3 [0,0,0] bJ ci (ae (ac 0) (ae (ac 1) (ae (ac 2) ah))))
 (aC (ac 3))))
noncomputable def cP:List D→Option (D × En):=fnF 1 [0,0,0] ig
theorem nQ {k:Nat} (T:Bl mg)  (qg:Kn P w K mg base k "number_of" ["tongue", "machine", "word"] (spF K [0,0,0] 3 bJ)) {Cnumber_of Dnumber_of:Addr} (GXnumber_of:KnX P w K mg base k "number_of" ["tongue", "machine", "word"] (spX K [0,0,0] Cnumber_of ci)) (EXnumber_of:ExcP K mg "NoFit" "WordError" Cnumber_of Dnumber_of) (F:Fun K "_law_told" "_law_told" hU f fd):FnOk P w K mg base CX0 (k+1) f fd ["_law_tongue_here", "_law_machine_here", "_law_word"] (spF K [0,0,0] 0 cP):=by
 have nd:=sc_law_told.nd
 refine F.okQ (N:=kB) (b:=ig) (J:=⟨[],[0,0,0,0],0,[]⟩) (ds0:=[0,0,0,0]) sc_law_told rfl rfl rfl rfl fun cdv A outer s H E hr=>?_
 exact (ag (al (i:=3) (d:=0) (ds':=[0,0,0,0]) nd rfl (.inl rfl) (aj (d':=0) bA (by decide)) rfl (by decide) (by decide) rfl (.inl rfl))
  (ag (A4 (ds1:=[0,0,0,0]) ⟨rfl,rfl,rfl⟩ GXnumber_of hr rfl (fun _=>(ad (aa (i:=0) rfl (.inl rfl) rfl rfl rfl) (ad (aa (i:=1) rfl (.inl rfl) rfl rfl rfl) (ad (aa (i:=2) rfl (.inl rfl) rfl rfl rfl) af rfl) rfl) rfl)) rfl rfl rfl rfl (fun _=>(al (i:=3) (d:=0) (ds':=[0,0,0,0]) nd rfl (.inl rfl) (aj (d':=0) (aP qg hr rfl (ad (aa (i:=0) rfl (.inl rfl) rfl rfl rfl) (ad (aa (i:=1) rfl (.inl rfl) rfl rfl rfl) (ad (aa (i:=2) rfl (.inl rfl) rfl rfl rfl) af rfl) rfl) rfl) rfl rfl rfl rfl rfl) (by decide)) rfl (by decide) (by decide) rfl (.inl rfl))) (fun _ _=>(al (i:=3) (d:=0) (ds':=[0,0,0,0]) nd rfl (.inl rfl) (aj (d':=0) bA (by decide)) rfl (by decide) (by decide) rfl (.inl rfl))) EXnumber_of.hx EXnumber_of.hx' Ac EXnumber_of.hs rfl EXnumber_of.m' rfl rfl)
  (ao (ay (aa (i:=3) rfl (.inl rfl) rfl rfl rfl) rfl))))
abbrev gZ:Stmt:=top 34
abbrev qf:List Str:=["_law_script", "_law_pen_here", "_law_signs_here", "_law_machine_here", "_law_tongue_here", "_law_letters", "_law_handed", "_law_due", "_law_row", "_law_told_here"]
theorem sclaw:FnScope qf ["_law_script"] (am gZ):=⟨rfl,rfl,rfl,by decide +kernel,rfl,by decide +kernel,by decide +kernel⟩
noncomputable def sd:ME:=(eN fH (ae (ac 0) ah))
noncomputable def nO:ME:=(e2 ixT (ac 1) (ac 0))
noncomputable def r8:MS:=(ak (aq 9 (ar cP (ae (ac 4) (ae (ac 6) (ae (eM joinD (eC (.str "")) (ae (eLC true (bt (ac 8)) (gN 0) cY nO [none,some 5]) ah)) ah)))))
 (sIf (cW (tV (ar cR (ae (ac 3) (ae (ac 8) ah))))) (sIf (tV (e2 cV (ac 9) (eC .none))) (aC (eC (.bool false))) bq) (ak (sIf (bOr (cW (tV (e1 (aM "int") (ac 9)))) (bOr (tV (e1 (aM "bool") (ac 9))) (tV (e2 neD (ac 9) (ac 7))))) (aC (eC (.bool false))) bq)
 (aq 7 (e2 aY (ac 7) (eC (.int 1)))))))
noncomputable def uj:MS:=(ak (aq 1 (ar bV (ae (ac 0) (ae (eC (.int 0)) ah))))
 (ak (aq 2 (ar cx (aL 1 ah)))
 (ak (aq 3 (ar bP (aL 1 (ae (ac 2) (ae (eC (.int 7)) ah)))))
 (ak (aq 4 (ar b9 (ae (ar bV (ae (ac 0) (ae (eC (.int 28)) ah))) (ae (ac 2) ah))))
 (ak (aq 5 (eM joinD (eC (.str "")) (ae (ac 4) ah)))
 (ak (aq 6 (fT (ae (eN fH (ae (e2 ixA (ac 3) (eC (.int 0))) ah)) (ae (eLC true (bt (e2 ixA (ac 3) (eC (.int 1)))) (gN 0) cY sd [none]) ah))))
 (ak (aq 7 (eC (.int 0)))
 (ak (dk (bt (ar cQ (ae (ac 2) (ae (e2 ixA (ba (ae (eC (.int 0)) (ae (eC (.int 12)) (ae (eC (.int 7)) (ae (eC (.int 4)) (ae (eC (.int 3)) (ae (eC (.int 3)) (ae (eC (.int 2)) (ae (eC (.int 2)) (ae (eC (.int 2)) (ae (eC (.int 2)) (ae (eC (.int 2)) (ae (eC (.int 2)) (ae (eC (.int 2)) ah)))))))))))))) (ac 2)) ah)))) (gN 8) r8)
 (aC (e2 eqD (ac 6) (ac 3)))))))))))
noncomputable def qo:List D→Option (D × En):=fnF 9 [0] uj
theorem FQ {k:Nat} (T:Bl mg)  (ma:Kn P w K mg base k "_law_pen" ["_law_script", "_law_first"] (spF K [0,0] 1 bV)) (n8:Kn P w K mg base k "_law_signs" ["_law_pen_here"] (spF K [1] 0 cx)) (mq:Kn P w K mg base k "_law_machine" ["_law_pen_here", "_law_signs_here", "_law_most"] (spF K [1,0,0] 0 bP)) (nN:Kn P w K mg base k "_law_tongue" ["_law_pen_here", "_law_many"] (spF K [1,0] 0 b9)) (qj:Kn P w K mg base k "_law_rows" ["_law_signs_here", "_law_most"] (spF K [0,0] 0 cQ)) (qi:Kn P w K mg base k "_law_told" ["_law_tongue_here", "_law_machine_here", "_law_word"] (spF K [0,0,0] 0 cP)) (qk:Kn P w K mg base k "_law_lets" ["_law_machine_here", "_law_row"] (spF K [0,0] 0 cR)) (F:Fun K "law" "law" gZ f fd):FnOk P w K mg base CX0 (k+1) f fd ["_law_script"] (spF K [0] 3 qo):=by
 have nd:=sclaw.nd
 refine F.okQ (N:=qf) (b:=uj) (J:=⟨[],[0,0,0,0,0,0,0,0,0,0],3,[]⟩) (ds0:=[0,0,0,0,0,0,0,0,0,0]) sclaw rfl rfl rfl rfl fun cdv A outer s H E hr=>?_
 exact (ag (al (i:=1) (d:=1) (ds':=[0,1,0,0,0,0,0,0,0,0]) nd rfl (.inl rfl) (aP ma hr rfl (ad (aa (i:=0) rfl (.inl rfl) rfl rfl rfl) (ad (aj (d':=0) ai (by decide)) af rfl) rfl) rfl rfl rfl rfl rfl) rfl (by decide) (by decide) rfl (.inl rfl))
  (ag (al (i:=2) (d:=0) (ds':=[0,1,0,0,0,0,0,0,0,0]) nd rfl (.inl rfl) (bF n8 hr rfl (bb (i:=1) rfl (.inl rfl) af rfl rfl) rfl rfl rfl rfl) rfl (by decide) (by decide) rfl (.inl rfl))
  (ag (al (i:=3) (d:=0) (ds':=[0,1,0,0,0,0,0,0,0,0]) nd rfl (.inl rfl) (bF mq hr rfl (bb (i:=1) rfl (.inl rfl) (ad (aa (i:=2) rfl (.inl rfl) rfl rfl rfl) (ad (aj (d':=0) ai (by decide)) af rfl) rfl) rfl rfl) rfl rfl rfl rfl) rfl (by decide) (by decide) rfl (.inl rfl))
  (ag (al (i:=4) (d:=0) (ds':=[0,1,0,0,0,0,0,0,0,0]) nd rfl (.inl rfl) (aP nN hr rfl (ad (aP ma hr rfl (ad (aa (i:=0) rfl (.inl rfl) rfl rfl rfl) (ad (aj (d':=0) ai (by decide)) af rfl) rfl) rfl rfl rfl rfl rfl) (ad (aa (i:=2) rfl (.inl rfl) rfl rfl rfl) af rfl) rfl) rfl rfl rfl rfl rfl) rfl (by decide) (by decide) rfl (.inl rfl))
  (ag (al (i:=5) (d:=0) (ds':=[0,1,0,0,0,0,0,0,0,0]) nd rfl (.inr rfl) (aj (d':=0) (eF (K:=K) rfl PySem.F.slot_str_join PySem.F.type_str_join (i3 rfl) i9 a9 (ad (aa (i:=4) rfl (.inl rfl) rfl rfl rfl) af rfl) rfl rfl rfl rfl rfl rfl) (by decide)) rfl (by decide) (by decide) rfl (.inl rfl))
  (ag (al (i:=6) (d:=0) (ds':=[0,1,0,0,0,0,0,0,0,0]) nd rfl (.inl rfl) (aj (d':=0) (nu (d:=2) (c:=1) (ad (cw (i7 (K:=K) rfl rfl) rfl T.list0 (by decide +kernel) (ad (aH (a8 (K:=K) rfl) (aa (i:=3) rfl (.inl rfl) rfl rfl rfl) ai (fun _ _=>rfl)) af rfl) rfl (by decide) rfl rfl rfl) (ad (cv (cd:=1) (d:=2) (dsi:=[0]) (lk:=[]) (BlkOkC.of (ns:=["_law_row"]) (js:=[none]) (N0:=qf) (sc0:=am gZ) rfl rfl (by decide +kernel)) rfl (bz (K:=K) rfl (aH (a8 (K:=K) rfl) (aa (i:=3) rfl (.inl rfl) rfl rfl rfl) ai (fun _ _=>rfl))) (fun _ _ _ _ _=>(aD (i:=0) (ds':=[0]) (show (["_law_row"]:List Str).Nodup by decide +kernel) rfl (.inl rfl) rfl (by decide) (by decide) (.inr rfl))) (fun _ _ _ _ _=>bo) (fun _ _ _ _ _=>(cw (i7 (K:=K) rfl rfl) rfl T.list0 (by decide +kernel) (ad (aa (i:=0) rfl (.inl rfl) rfl rfl rfl) af rfl) rfl (by decide) rfl rfl rfl)) rfl rfl (by decide) rfl (fun _=>rfl)) af rfl) rfl) rfl rfl) (by decide)) rfl (by decide) (by decide) rfl (.inl rfl))
  (ag (al (i:=7) (d:=0) (ds':=[0,1,0,0,0,0,0,0,0,0]) nd rfl (.inl rfl) (aj (d':=0) ai (by decide)) rfl (by decide) (by decide) rfl (.inl rfl))
  (ag (cB (ds1:=[0,1,0,0,0,0,0,0,0,0]) rfl (bz (K:=K) rfl (aP qj hr rfl (ad (aa (i:=2) rfl (.inl rfl) rfl rfl rfl) (ad (aH (a8 (K:=K) rfl) (bf (d:=3) (c:=3) (ad ai (ad ai (ad ai (ad ai (ad ai (ad ai (ad ai (ad ai (ad ai (ad ai (ad ai (ad ai (ad ai af rfl) rfl) rfl) rfl) rfl) rfl) rfl) rfl) rfl) rfl) rfl) rfl) rfl) rfl rfl (by decide)) (aa (i:=2) rfl (.inl rfl) rfl rfl rfl) (fun _ _=>rfl)) af rfl) rfl) rfl rfl rfl rfl rfl)) (aD (i:=8) (ds':=[0,1,0,0,0,0,0,0,0,0]) nd rfl (.inl rfl) rfl (by decide) (by decide) (.inl rfl)) (ag (al (i:=9) (d:=0) (ds':=[0,1,0,0,0,0,0,0,0,0]) nd rfl (.inl rfl) (aP qi hr rfl (ad (aa (i:=4) rfl (.inl rfl) rfl rfl rfl) (ad (aa (i:=6) rfl (.inl rfl) rfl rfl rfl) (ad (aj (d':=0) (eF (K:=K) rfl PySem.F.slot_str_join PySem.F.type_str_join (i3 rfl) i9 a9 (ad (aj (d':=0) (cv (cd:=3) (d:=3) (dsi:=[0,0]) (lk:=[1]) (BlkOkC.of (ns:=["_law_number", "_law_letters"]) (js:=[none,some 5]) (N0:=qf) (sc0:=am gZ) rfl rfl (by decide +kernel)) rfl (bz (K:=K) rfl (aa (i:=8) rfl (.inl rfl) rfl rfl rfl)) (fun _ _ _ _ _=>(aD (i:=0) (ds':=[0,0]) (show (["_law_number", "_law_letters"]:List Str).Nodup by decide +kernel) rfl (.inl rfl) rfl (by decide) (by decide) (.inr rfl))) (fun _ _ _ _ _=>bo) (fun _ _ _ _ _=>(aH ER (aa (i:=1) rfl (.inr (.inl rfl)) rfl rfl rfl) (aa (i:=0) rfl (.inl rfl) rfl rfl rfl) (fun _ _=>rfl))) rfl rfl (by decide) rfl (fun _=>rfl)) (by decide)) af rfl) rfl rfl rfl rfl rfl rfl) (by decide)) af rfl) rfl) rfl) rfl rfl rfl rfl rfl) rfl (by decide) (by decide) rfl (.inl rfl))
  (ao (bx (ds2:=[0,1,0,0,0,0,0,0,0,0]) (cA (bS (aP qk hr rfl (ad (aa (i:=3) rfl (.inl rfl) rfl rfl rfl) (ad (aa (i:=8) rfl (.inl rfl) rfl rfl rfl) af rfl) rfl) rfl rfl rfl rfl rfl) (fun _=>rfl))) (ao (bx (ds2:=[0,1,0,0,0,0,0,0,0,0]) (aT gp (aa (i:=9) rfl (.inl rfl) rfl rfl rfl) bA (a7 _)) (ao (ay ja rfl)) bp)) (ag (bx (ds2:=[0,1,0,0,0,0,0,0,0,0]) (qpt (gn (cA (bS (jJ (K:=K) (n:="int") rfl rfl T.isinstance0 rfl T.int0 (by decide +kernel) (by decide) (aa (i:=9) rfl (.inl rfl) rfl rfl rfl) (by decide) rfl rfl rfl rfl) (fun _=>rfl))) (gn (bS (jJ (K:=K) (n:="bool") rfl rfl T.isinstance0 rfl T.bool0 (by decide +kernel) (by decide) (aa (i:=9) rfl (.inl rfl) rfl rfl rfl) (by decide) rfl rfl rfl rfl) (fun _=>rfl)) (gP (aT (zR (K:=K) rfl hr.units) (aa (i:=9) rfl (.inl rfl) rfl rfl rfl) (aa (i:=7) rfl (.inl rfl) rfl rfl rfl) (a7 _)))))) (ao (ay ja rfl)) bp)
  (ao (al (i:=7) (d:=0) (ds':=[0,1,0,0,0,0,0,0,0,0]) nd rfl (.inl rfl) (aj (d':=0) (ax bM (aa (i:=7) rfl (.inl rfl) rfl rfl rfl) ai) (by decide)) rfl (by decide) (by decide) rfl (.inl rfl))))))) PassesOwn.never (fun _=>rfl))
  (ao (ay (dm (i8 (K:=K) rfl hr.units) (aa (i:=6) rfl (.inl rfl) rfl rfl rfl) (aa (i:=3) rfl (.inl rfl) rfl rfl rfl) (a7 _)) rfl))))))))))
end
end W29
set_option maxHeartbeats 1000000
namespace W29
open PySem L2 Pen2 Mch
def stp (gs:List (List (Option Nat))) (t:Option Nat) (a:Nat):Option Nat:=t.bind fun s=>((gs[s]?).bind fun r=>r[a]?).join
def gne (gs:List (List (Option Nat))) (t:Option Nat) (r:List Nat):Option Nat:=r.foldl (stp gs) t
def bw (r:List Nat):D:=.list (r.map fun a:Nat=>.int a)
def rws (W:Nat):Nat→List (List Nat)
 | 0=>[[]]
 | n+1=>(rws W n).flatMap fun r=>(List.range W).map fun a=>r++[a]
def Val (S:Nat) (t:Option Nat):Prop:=∀ s,t=some s→s < S
def wt (gs:List (List (Option Nat))) (es:List Bool) (k:Nat):Option Nat→Int
 | none=>0
 | some s=>(it gs (base es) k).getD s 0
theorem e8 {W:Nat}:∀ {n:Nat} {r:List Nat},r∈rws W n→r.length=n∧∀ a∈r,a < W
 | 0,r,h=>by
  rw [List.mem_singleton.mp h]
  exact ⟨rfl,fun _ z=>by cases z⟩
 | n+1,r,h=>by
  obtain ⟨q,hq,h⟩:=List.mem_flatMap.mp h
  obtain ⟨a,ha,rfl⟩:=List.mem_map.mp h
  obtain ⟨h1,h2⟩:=e8 hq
  refine ⟨by rw [List.length_append,h1]; rfl,fun x hx=>?_⟩
  rcases List.mem_append.mp hx with hx | hx
  ·exact h2 x hx
  ·rw [List.mem_singleton.mp hx]
   exact List.mem_range.mp ha
theorem jH {W:Nat}:∀ rs:List (List Nat),(rs.flatMap fun r=>(List.range W).map fun a=>r++[a]).length=rs.length * W
 | []=>by simp
 | r :: rs=>by
  rw [List.flatMap_cons,List.length_append,jH rs,List.length_map,List.length_range,List.length_cons,Nat.succ_mul]
  omega
section
variable {S W:Nat} {es:List Bool} {gs:List (List (Option Nat))}
theorem mK (M:MOk S W es gs) {s a:Nat} (hs:s < S) (ha:a < W):∃ r o,gs[s]?=some r∧r[a]?=some o∧stp gs (some s) a=o∧Val S o∧dP S W r:=by
 have h1:s < gs.length:=by rw [M.lg]; exact hs
 have hr:=M.ok _ (List.getElem_mem h1)
 have h2:a < (gs[s]).length:=by rw [hr.1]; exact ha
 refine ⟨gs[s],(gs[s])[a],List.getElem?_eq_getElem h1,List.getElem?_eq_getElem h2,?_,fun j hj=>hr.2 _ (List.getElem_mem h2) j hj,hr⟩
 show ((gs[s]?).bind fun r=>r[a]?).join=_
 rw [List.getElem?_eq_getElem h1]
 show ((gs[s])[a]?).join=_
 rw [List.getElem?_eq_getElem h2]
 rfl
theorem Ag (M:MOk S W es gs) {t:Option Nat} {a:Nat} (ht:Val S t) (ha:a < W):Val S (stp gs t a):=by
 cases t with
 | none=>exact fun s z=>by cases z
 | some s =>
  obtain ⟨r,o,_,_,e,v,_⟩:=mK M (ht s rfl) ha
  rw [e]
  exact v
theorem cK (M:MOk S W es gs):∀ (r:List Nat) {t:Option Nat},Val S t→(∀ a∈r,a < W)→Val S (gne gs t r)
 | [],_,ht,_=>ht
 | a :: r,_,ht,h=>cK M r (Ag M ht (h a List.mem_cons_self)) fun x hx=>h x (List.mem_cons_of_mem _ hx)
end
theorem jy (g:List Nat→Int) (f:List Nat→List (List Nat)):∀ rs:List (List Nat),((rs.flatMap f).map g).sum=(rs.map fun r=>((f r).map g).sum).sum
 | []=>rfl
 | r :: rs=>by
  rw [List.flatMap_cons,List.map_append,List.sum_append,jy g f rs,List.map_cons,List.sum_cons]
theorem jx {v:List Int} (G:Option Nat→Int) (h0:G none=0) (h1:∀ j,G (some j)=v.getD j 0):∀ r:List (Option Nat),(r.map G).sum=((r.map goD).filterMap (sD v)).sum
 | []=>rfl
 | none :: r=>by
  rw [List.map_cons,List.sum_cons,h0,Int.zero_add]
  exact jx G h0 h1 r
 | some j :: r=>by
  rw [List.map_cons,List.sum_cons,h1,jx G h0 h1 r]
  rfl
section
variable {S W:Nat} {es:List Bool} {gs:List (List (Option Nat))}
theorem oi (M:MOk S W es gs) (k:Nat) {t:Option Nat} (ht:Val S t):((List.range W).map fun a=>wt gs es k (stp gs t a)).sum=wt gs es (k+1) t:=by
 cases t with
 | none =>
  have:∀ l:List Nat,(l.map fun a=>wt gs es k (stp gs none a)).sum=0:=by
   intro l
   induction l with
   | nil=>rfl
   | cons a l ih=>rw [List.map_cons,List.sum_cons,ih]; rfl
  exact this _
 | some s =>
  have hs:=ht s rfl
  have h1:s < gs.length:=by rw [M.lg]; exact hs
  have hr:=M.ok _ (List.getElem_mem h1)
  have e1:wt gs es (k+1) (some s)=rsD (it gs (base es) k) (aQ gs[s]):=by
   show (gs.map fun r=>rsD (it gs (base es) k) (aQ r)).getD s 0=_
   rw [List.getD_eq_getElem?_getD,List.getElem?_map,List.getElem?_eq_getElem h1]
   rfl
  have e2':((List.range W).map fun a=>wt gs es k (stp gs (some s) a))=(gs[s]).map (wt gs es k):=by
   refine List.ext_getElem (by rw [List.length_map,List.length_range,List.length_map,hr.1]) fun i q1 q2=>?_
   have hi:i < W:=by rw [List.length_map,List.length_range] at q1; exact q1
   rw [List.getElem_map,List.getElem_map,List.getElem_range]
   obtain ⟨r,o,a1,a2,a3,_,_⟩:=mK M hs hi
   rw [a3]
   rw [List.getElem?_eq_getElem h1] at a1
   cases a1
   have h2:i < (gs[s]).length:=by rw [hr.1]; exact hi
   rw [List.getElem?_eq_getElem h2] at a2
   cases a2
   rfl
  rw [e1,e2']
  exact jx (v:=it gs (base es) k) (wt gs es k) rfl (fun _=>rfl) gs[s]
theorem on (M:MOk S W es gs) {t:Option Nat} (ht:Val S t):∀ (n k:Nat),((rws W n).map fun r=>wt gs es k (gne gs t r)).sum=wt gs es (n+k) t
 | 0,k=>by
  rw [Nat.zero_add]
  show wt gs es k t+0=_
  rw [Int.add_zero]
 | n+1,k=>by
  show (((rws W n).flatMap fun r=>(List.range W).map fun a=>r++[a]).map fun r=>wt gs es k (gne gs t r)).sum=_
  rw [jy]
  have:((rws W n).map fun r=>(((List.range W).map fun a=>r++[a]).map fun r=>wt gs es k (gne gs t r)).sum)=(rws W n).map fun r=>wt gs es (k+1) (gne gs t r):=by
   refine List.map_congr_left fun r hr=>?_
   rw [List.map_map]
   have e:((fun r=>wt gs es k (gne gs t r)) ∘ fun a=>r++[a])=fun a=>wt gs es k (stp gs (gne gs t r) a):=by
    funext a
    show wt gs es k ((r++[a]).foldl (stp gs) t)=_
    rw [List.foldl_append]
    rfl
   rw [e]
   exact oi M k (cK M r ht (e8 hr).2)
  rw [this,on M ht n (k+1)]
  congr 1
  omega
end
theorem eT {α β:Type} {f:α→List β}:∀ {xs:List α} {pre post:List β} {r:β},xs.flatMap f=pre++r :: post→∃ x1 x x2 p q,xs=x1++x :: x2∧f x=p++r :: q∧pre=x1.flatMap f++p
 | [],pre,post,r,h=>by
  have:=congrArg List.length h
  simp at this
 | x :: xs,pre,post,r,h=>by
  rw [List.flatMap_cons] at h
  rcases List.append_eq_append_iff.mp h with ⟨a,e1,e2⟩ | ⟨c,e1,e2⟩
  ·obtain ⟨x1,y,x2,p,q,g1,g2,g3⟩:=eT (xs:=xs) (pre:=a) (post:=post) (r:=r) e2
   exact ⟨x :: x1,y,x2,p,q,by rw [g1]; rfl,g2,by rw [e1,g3,List.flatMap_cons,List.append_assoc]⟩
  ·cases c with
   | nil =>
    rw [List.append_nil] at e1
    obtain ⟨x1,y,x2,p,q,g1,g2,g3⟩:=eT (xs:=xs) (pre:=[]) (post:=post) (r:=r) (by simpa using e2.symm)
    refine ⟨x :: x1,y,x2,p,q,by rw [g1]; rfl,g2,?_⟩
    rw [List.flatMap_cons,List.append_assoc,← g3,List.append_nil,e1]
   | cons y c =>
    rw [List.cons_append] at e2
    injection e2 with e3 e4
    subst e3
    exact ⟨[],x,xs,pre,c,rfl,e1,rfl⟩
theorem lG {α:Type} (g:List Nat→Int) (f:α→List (List Nat)):∀ rs:List α,((rs.flatMap f).map g).sum=(rs.map fun r=>((f r).map g).sum).sum
 | []=>rfl
 | r :: rs=>by
  rw [List.flatMap_cons,List.map_append,List.sum_append,lG g f rs,List.map_cons,List.sum_cons]
theorem lM {β:Type} {f:Nat→β} {n:Nat} {p q:List β} {r:β} (h:(List.range n).map f=p++r :: q):∃ a,a < n∧r=f a∧p=(List.range a).map f:=by
 have l:=congrArg List.length h
 rw [List.length_map,List.length_range,List.length_append,List.length_cons] at l
 refine ⟨p.length,by omega,?_,?_⟩
 ·have:=congrArg (fun z=>z[p.length]?) h
  rw [List.getElem?_map,List.getElem?_range (by omega),List.getElem?_append_right (Nat.le_refl _),Nat.sub_self] at this
  exact (Option.some.inj this).symm
 ·have:=congrArg (List.take p.length) h
  rw [← List.map_take,List.take_range,List.take_left'] at this
  ·rw [Nat.min_eq_left (by omega)] at this
   exact this.symm
  ·rfl
section
variable {S W:Nat} {es:List Bool} {gs:List (List (Option Nat))}
def ra (gs:List (List (Option Nat))) (es:List Bool) (k:Nat):Option Nat→List Nat→Int
 | _,[]=>0
 | t,a :: r=>((List.range a).map fun b=>wt gs es (r.length+k) (stp gs t b)).sum+ra gs es k (stp gs t a) r
theorem oo (k:Nat) (a:Nat):∀ (q:List Nat) (t:Option Nat),ra gs es k t (q++[a])=ra gs es (k+1) t q+((List.range a).map fun b=>wt gs es k (stp gs (gne gs t q) b)).sum
 | [],t=>by
  show ((List.range a).map fun b=>wt gs es (0+k) (stp gs t b)).sum+0=0+_
  rw [Nat.zero_add,Int.add_zero,Int.zero_add]
  rfl
 | b :: q,t=>by
  show ((List.range b).map fun c=>wt gs es ((q++[a]).length+k) (stp gs t c)).sum+ra gs es k (stp gs t b) (q++[a])=_
  rw [oo k a q (stp gs t b),List.length_append]
  show _=((List.range b).map fun c=>wt gs es (q.length+(k+1)) (stp gs t c)).sum+ra gs es (k+1) (stp gs t b) q+_
  rw [show q.length+[a].length+k=q.length+(k+1) from by show q.length+1+k=_; omega]
  rw [Int.add_assoc]
  rfl
theorem nI (M:MOk S W es gs) {t:Option Nat} (ht:Val S t):∀ (n k:Nat) {pre post:List (List Nat)} {r:List Nat},rws W n=pre++r :: post→(pre.map fun q=>wt gs es k (gne gs t q)).sum=ra gs es k t r
 | 0,k,pre,post,r,h=>by
  have h':[([]:List Nat)]=pre++r :: post:=h
  cases pre with
  | nil =>
   injection h' with e _
   rw [← e]
   rfl
  | cons p pre =>
   have:=congrArg List.length h'
   simp at this
 | n+1,k,pre,post,r,h=>by
  obtain ⟨q1,q,q2,p,s,g1,g2,g3⟩:=eT (xs:=rws W n) h
  obtain ⟨a,ha,e1,e2⟩:=lM g2
  have hq:∀ z∈q1,z∈rws W n:=fun z hz=>by rw [g1]; exact List.mem_append_left _ hz
  rw [g3,List.map_append,List.sum_append,jy]
  have:(q1.map fun r=>(((List.range W).map fun a=>r++[a]).map fun r=>wt gs es k (gne gs t r)).sum)=q1.map fun r=>wt gs es (k+1) (gne gs t r):=by
   refine List.map_congr_left fun r hr=>?_
   rw [List.map_map]
   have e:((fun r=>wt gs es k (gne gs t r)) ∘ fun a=>r++[a])=fun a=>wt gs es k (stp gs (gne gs t r) a):=by
    funext a
    show wt gs es k ((r++[a]).foldl (stp gs) t)=_
    rw [List.foldl_append]
    rfl
   rw [e]
   exact oi M k (cK M r ht (e8 (hq r hr)).2)
  rw [this,nI M ht n (k+1) g1,e1,oo,e2,List.map_map]
  congr 3
  funext b
  show wt gs es k ((q++[b]).foldl (stp gs) t)=_
  rw [List.foldl_append]
  rfl
def cF (W m:Nat):List (List Nat):=(List.range (m+1)).flatMap (rws W)
theorem m3 {n:Nat} {x1 x2:List Nat} {x:Nat} (h:List.range n=x1++x :: x2):x1=List.range x∧x < n:=by
 obtain ⟨a,h1,h2,h3⟩:=lM (f:=fun a:Nat=>a) (n:=n) (p:=x1) (r:=x) (q:=x2) (by rw [List.map_id']; exact h)
 rw [List.map_id'] at h3
 subst h2
 exact ⟨h3,h1⟩
theorem Fu (M:MOk S W es gs) {m:Nat} {pre post:List (List Nat)} {r:List Nat} (h:cF W m=pre++r :: post) (hS:0 < S) :
  (pre.map fun q=>wt gs es 0 (gne gs (some 0) q)).sum=((List.range r.length).map fun l=>wt gs es l (some 0)).sum+ra gs es 0 (some 0) r:=by
 have ht:Val S (some 0):=fun s e=>by cases e; exact hS
 obtain ⟨x1,x,x2,p,q,g1,g2,g3⟩:=eT h
 obtain ⟨e1,_⟩:=m3 g1
 have lr:r.length=x:=(e8 (W:=W) (n:=x) (by rw [g2]; simp)).1
 rw [g3,List.map_append,List.sum_append,nI M ht x 0 g2,lr,e1]
 congr 1
 rw [lG]
 congr 1
 refine List.map_congr_left fun l _=>?_
 exact on M ht l 0
end
end W29
namespace W29
open PySem L2 Pen2 Mch Tg
def Pn (n:Nat) (t:D):Prop:=∃ ns k l,t=Pen2.penD ns k l∧0≤k∧k≤(n:Int)∧0≤l
theorem Pn.mono {n m:Nat} {t:D} (h:Pn n t) (e:n≤m):Pn m t:=by
 obtain ⟨ns,k,l,rfl,h1,h2,h3⟩:=h
 exact ⟨ns,k,l,rfl,h1,by omega,h3⟩
theorem nJ {p:D} {m:Int} {n:Nat} (hp:Pn n p) (hn:n≤1000000) (h3:0 < m) (h4:m < 1073741824) {Q:D × En→Prop} (h:∀ r p',0≤r→r < m→Pn (n+1) p'→Q (.int r,[some p',none])):W (aw [p,.int m]) Q:=by
 obtain ⟨ns,k,l,rfl,k0,k1,l0⟩:=hp
 obtain ⟨r,k',l',e,e1,e2,e3,e4,e5⟩:=Pen2.take_ok (ns:=ns) (k:=k) (l:=l) (m:=m) k0 (by omega) l0 h3 h4
 exact W.of (show aw _=_ from e) (h r _ e1 e2 ⟨ns,k',l',rfl,by omega,by omega,e5⟩)
def pool:List Nat:=li "!\"#$&'()*+,-./0123456789:;<=>?\x40[\\]^_`{|}~"++li "ABCDEFGHIJKLMNOPQRSTUVWXYZabcdefghijklmnopqrstuvwxyz"
theorem sC:pool.length=93:=by decide +kernel
theorem At:pool.Nodup:=by decide +kernel
theorem As {n m:Nat} {left:List Nat} {p:D} {Q:List D × En→Prop} (hp:Pn n p) (hn:n≤1000) (h1:m≤12) (hl:left.length=93) (hc:left.Nodup)
  (hq:∀ (cs:List Nat) o' p' l',cs.length=m→cs.Nodup→Pn (n+12) p'→Q (cs.map s1,[o',some p',l'])):W (lcF (gN 0) cY ee (fN 0 m) [] [none,some p,some (.list (left.map s1))]) Q:=by
 refine GQ (fun i us en=>∃ (cs lf:List Nat) (o:Option D) (p:D),us=cs.map s1∧en=[o,some p,some (.list (lf.map s1))]∧cs.length=i∧lf.length+i=93∧(cs++lf).Perm left∧Pn (n+i) p) (by rw [gi]; exact sz (by omega)) ⟨[],left,none,p,rfl,rfl,rfl,hl,List.Perm.refl _,hp⟩ ?_ ?_
 ·rintro i t us en ht hu ⟨cs,lf,o,p,rfl,rfl,g1,g2,g3,hp⟩
  obtain ⟨hi,rfl⟩:=kR ht
  simp only [ws,ee]
  refine nJ hp (by omega) (by omega) (by omega) fun r p' r0 r1 hp'=>?_
  obtain ⟨k,rfl⟩:=Int.eq_ofNat_of_zero_le r0
  have hk:k < lf.length:=by omega
  simp only [ws,GD hk]
  refine ⟨by omega,cs++[lf[k]],lf.eraseIdx k,_,p',by rw [List.map_append]; rfl,rfl,by rw [List.length_append,g1]; rfl,by rw [List.length_eraseIdx_of_lt hk]; omega,?_,hp'⟩
  rw [List.append_assoc]
  exact (List.Perm.append_left cs (kr lf k hk)).trans g3
 ·rintro us en hu ⟨cs,lf,o,p,rfl,rfl,g1,g2,g3,hp⟩
  rw [gi] at g1 g2 hp
  exact hq cs o p _ g1 (List.nodup_append.mp (g3.nodup_iff.mpr hc)).1 (hp.mono (by omega))
theorem zH:∀ cs:List Nat,aE (cs.map s1)=true∧bg (cs.map s1)=0
 | []=>⟨rfl,rfl⟩
 | c :: cs=>by
  obtain ⟨h1,h2⟩:=zH cs
  refine ⟨?_,?_⟩
  ·rw [List.map_cons]; simp only [aE,aA,h1]; rfl
  ·rw [List.map_cons]; simp only [bg,cy,h2]; rfl
theorem FU (cs:List Nat):neD (.list (cs.map s1)) (.list [])=some (.bool (!decide (cs=[]))):=by
 obtain ⟨h1,h2⟩:=zH cs
 show grd _ _=_
 unfold grd
 rw [if_pos ⟨by simp only [aA]; exact h1,rfl,by simp only [cy,h2]; decide⟩]
 cases cs with
 | nil=>rfl
 | cons c cs=>rfl
structure TX (m:Nat) (ks:List Str):Prop where
 n4:ks.length≤4
 l:(aX ks).length=m
 m12:m≤12
 nd:(aX ks).Nodup
theorem sS {n m:Nat} {cs:List Nat} {p:D} {x1 x2 x5:Option D} (hp:Pn n p) (hn:n≤1000) (hm:cs.length=m) (h1:1≤m) (h12:m≤12) (hc:cs.Nodup) {Q:Fl→Prop}
  (h:∀ ks p' o3 o5,TX m ks→Pn (n+12) p'→Q (.nx [some p',x1,x2,o3,some (.list (ks.map .str)),o5])) :
  W (bG cN dY [some p,x1,x2,some (.list (cs.map s1)),some (.list []),x5]) Q:=by
 refine BG (fun d en=>∃ p' left ks o5,en=[some p',x1,x2,some (.list (left.map s1)),some (.list (ks.map .str)),o5]∧left.length=d∧(aX ks).length+left.length=m∧left.length+6 * ks.length≤24∧ks.length≤4∧Pn (n+ks.length) p'∧aX ks++left=cs) (fun d en ⟨p',left,ks,o5,e,g1,g2,g3,g4,g5,g6⟩=>?_) (n:=cs.length) ⟨p,cs,[],x5,rfl,rfl,by simp [aX,hm],by simp; omega,by simp,hp,by simp [aX]⟩
 subst e
 have e0:=FU left
 by_cases hl:left=[]
 ·have q:decide (left=[])=true:=decide_eq_true hl
  simp only [ws,cN,e0,q]
  have l0:left.length=0:=by rw [hl]; rfl
  rw [hl,List.append_nil] at g6
  exact h ks p' _ _ ⟨g4,by omega,h12,by rw [g6]; exact hc⟩ (g5.mono (by omega))
 ·have q:decide (left=[])=false:=decide_eq_false hl
  have lp:0 < left.length:=List.length_pos_iff.mpr hl
  simp only [ws,cN,e0,q,dY]
  obtain ⟨mo,hmo⟩:∃ mo:Int,(if (left.length:Int) < 6 then (left.length:Int) else 6)=mo:=⟨_,rfl⟩
  have hm':1≤mo∧mo≤left.length∧mo≤6:=by rw [← hmo]; split <;> omega
  rw [hmo]
  refine nJ g5 (by omega) (by omega) (by omega) fun r p1 r0 r1 hp1=>?_
  simp only [ws,gt_iff_lt]
  refine ⟨.inl (by decide),?_⟩
  obtain ⟨z,hz⟩:∃ z:Nat,(if 1+r < (left.length:Int) - 6 * (3 - (ks.length:Int)) then (left.length:Int) - 6 * (3 - (ks.length:Int)) else 1+r)=(z:Int)∧1≤z∧z≤left.length∧(left.length:Int) - 6 * (3 - (ks.length:Int))≤z:=by
   split
   ·exact ⟨((left.length:Int) - 6 * (3 - (ks.length:Int))).toNat,by omega,by omega,by omega,by omega⟩
   ·exact ⟨(1+r).toNat,by omega,by omega,by omega,by omega⟩
  obtain ⟨hz,z1,zl,z3⟩:=hz
  have st:left.take z++left.drop z=left:=List.take_append_drop z left
  have tl:(left.take z).length=z:=by rw [List.length_take]; omega
  have dl:(left.drop z).length=left.length - z:=List.length_drop
  simp only [ws,hz,ku,p6,← List.map_take,← List.map_drop,oK (cs:=left.take z) (by omega)]
  refine ⟨szl (by omega),(left.drop z).length,by omega,p1,left.drop z,ks++[ofL (left.take z)],_,by rw [List.map_append]; rfl,rfl,?_,?_,?_,hp1.mono (by rw [List.length_append]; show _≤n+(_+1); omega),?_⟩
  ·rw [l7,qU,List.length_append,tl,dl]
   omega
  ·rw [List.length_append,dl]
   show _+6 * (_+1)≤24
   omega
  ·rw [List.length_append]
   show _+1≤4
   omega
  ·rw [l7,qU,List.append_assoc,st,g6]
theorem qz {p:D} {n m:Nat} (hp:Pn n p) (hn:n≤900) (h1:1≤m) (h12:m≤12):W (b9 [p,.int (m:Nat)]) (fun r=>∃ ks p',r=(tD ks,[some p',none])∧TX m ks∧Pn (n+24) p'):=by
 have e1:=lN (z:="!\"#$&'()*+,-./0123456789:;<=>?\x40[\\]^_`{|}~") (by decide +kernel)
 have e2:=lN (z:="ABCDEFGHIJKLMNOPQRSTUVWXYZabcdefghijklmnopqrstuvwxyz") (by decide +kernel)
 have ep:(li "!\"#$&'()*+,-./0123456789:;<=>?\x40[\\]^_`{|}~").map s1++(li "ABCDEFGHIJKLMNOPQRSTUVWXYZabcdefghijklmnopqrstuvwxyz").map s1=pool.map s1:=by rw [← List.map_append]; rfl
 simp only [b9,fC,ws,e1,e2,ep,Int.toNat_natCast]
 refine ⟨sz (by decide +kernel),by omega,As hp (by omega) h12 sC At fun cs o' p' l' hl hc hp'=>?_⟩
 simp only [ws]
 refine sS hp' (by omega) hl h1 h12 hc fun ks p2 o3 o5 hT hp2=>?_
 simp only [ws]
 exact ⟨ks,p2,rfl,hT,hp2.mono (by omega)⟩
end W29
namespace W29
open PySem L2 Pen2 Mch Tg
section
variable {m:Nat} {ks:List Str}
theorem lX {α:Type} (f:α→Bool):∀ l:List α,fc (l.map fun a=>.bool (f a))=some (l.map f)
 | []=>rfl
 | a :: l=>by
  show (fc (l.map fun a=>.bool (f a))).map (f a :: ·)=_
  rw [lX f l]
  rfl
theorem all_map {α:Type} (f:α→Bool) (l:List α):lx [.list (l.map fun a=>.bool (f a))]=some (.bool (l.all f)):=by
 show (fc _).map _=_
 rw [lX]
 show some (PyData.bool ((l.map f).all id))=_
 rw [List.all_map]
 rfl
theorem oJ (T:TX m ks):joinD "" [tD ks]=some (.str (sgs ks)):=(lQ (by have:=T.l; have:=T.m12; omega) (by have:=T.n4; omega)).1
theorem qC (T:TX m ks):W (ca [tD ks]) (fun r=>r=(.str (sgs ks),[none])):=by
 simp only [ca,iV,ws,oJ T]
def spl (ks:List Str) (r:List Nat):List Nat:=r.map fun n=>(aX ks).getD n 0
theorem iY (T:TX m ks) {r:List Nat} (hr:∀ a∈r,a < m):∀ c∈spl ks r,c∈aX ks:=fun c hc=>by
 obtain ⟨a,ha,rfl⟩:=List.mem_map.mp hc
 have h:=hr a ha
 rw [← T.l] at h
 rw [List.getD_eq_getElem?_getD,List.getElem?_eq_getElem h]
 exact List.getElem_mem h
theorem kQ (T:TX m ks):∀ {r:List Nat},(∀ a∈r,a < m)→((spl ks r).map fun c=>(aX ks).idxOf c)=r
 | [],_=>rfl
 | a :: r,hr=>by
  have h:=hr a List.mem_cons_self
  rw [← T.l] at h
  show (aX ks).idxOf ((aX ks).getD a 0) :: ((spl ks r).map fun c=>(aX ks).idxOf c)=_
  rw [kQ T fun x hx=>hr x (List.mem_cons_of_mem _ hx),List.getD_eq_getElem?_getD,List.getElem?_eq_getElem h]
  show (aX ks).idxOf (aX ks)[a] :: r=_
  rw [T.nd.idxOf_getElem]
theorem lT (T:TX m ks) {cs:List Nat} (hz:cs.length≤60) (hm:∀ c∈cs,c∈aX ks):W (cn [tD ks,.str (ofL cs)]) (fun r=>r=(.bool true,[none,none])):=by
 have hl0:(ofL cs).length=cs.length:=oG cs
 have h1:¬ (60:Int) < ((ofL cs).length:Nat):=by omega
 simp only [cn,jX,ws,h1]
 refine ⟨sz (by omega),?_⟩
 refine W.use (qC T) ?_
 rintro _ rfl
 simp only [ws]
 have hl:(cH (ofL cs)).length=cs.length:=by unfold cH; rw [List.length_map]; rfl
 refine ft (fun _=>.bool true) (by rw [hl]; exact sz (by omega)) (fun t ht=>?_) fun o'=>?_
 ·obtain ⟨c,hc,rfl⟩:=List.mem_map.mp ht
  have e:gm (sgs ks) (mk1 c)=true:=(StrLaws.found_one (sgs ks) c).trans (decide_eq_true (hm c hc))
  simp only [kI,ws,e]
 ·have e:=all_map (fun _:D=>true) (cH (ofL cs))
  simp only [ws,e]
  simp
theorem j7 (T:TX m ks) {cs:List Nat} (hw:∀ c∈cs,c∈aX ks) (hl:cs.length≤60):W (cO [tD ks,.str (ofL cs)]) (fun r=>r=(bw (cs.map fun c=>(aX ks).idxOf c),[none,none])):=by
 let F:D→D:=fun t=>match t with
  | .str z=>.int (((aX ks).idxOf ((li z).headD 0):Nat):Int)
  | _=>.none
 simp only [cO,lD,ws]
 refine W.use (qC T) ?_
 rintro _ rfl
 simp only [ws]
 have hl:(cH (ofL cs)).length=cs.length:=by unfold cH; rw [List.length_map]; rfl
 refine ft F (by rw [hl]; exact sz (by omega)) (fun t ht=>?_) fun o'=>?_
 ·obtain ⟨c,hc,rfl⟩:=List.mem_map.mp ht
  obtain ⟨rest,hr⟩:=rj (z:=sgs ks) (c:=c) T.nd (hw c hc)
  have e:ki (sgs ks) [.str (mk1 c)]=some (.int (((aX ks).idxOf c:Nat):Int)):=by
   show (match Builtin.Str.occurrences (sgs ks) (mk1 c) 0 (sgs ks).length 1 with
    | i :: _=>some (PyData.int (i:Nat))
    | []=>none)=_
   rw [hr]
   rfl
  simp only [me,ws,e]
  rfl
 ·simp only [ws]
  show (PyData.list _,_)=_
  have em:(cH (ofL cs)).map F=(cs.map fun c=>(aX ks).idxOf c).map fun a:Nat=>.int a:=by
   unfold cH
   rw [List.map_map,List.map_map]
   rfl
  rw [em]
  rfl
theorem ss (T:TX m ks) {r:List Nat} (hr:∀ a∈r,a < m) (hl:r.length≤60) {Q:List D × En→Prop} (hq:∀ o,Q ((spl ks r).map s1,o :: [some (.str (sgs ks))])) :
  W (lcF (gN 0) cY nO (r.map fun a:Nat=>.int a) [] [none,some (.str (sgs ks))]) Q:=by
 let F:D→D:=fun t=>match t with
  | .int n=>s1 ((aX ks).getD n.toNat 0)
  | _=>.none
 refine ft F (by rw [List.length_map]; exact sz (by omega)) (fun t ht=>?_) fun o'=>?_
 ·obtain ⟨a,ha,rfl⟩:=List.mem_map.mp ht
  have h:=hr a ha
  rw [← T.l] at h
  have lz:(sgs ks).length=(aX ks).length:=oG _
  have e:atI (li (sgs ks)) (a:Int)=some ((aX ks).getD a 0):=by
   rw [aW]
   show (aX ks)[a]?=_
   rw [List.getD_eq_getElem?_getD,List.getElem?_eq_getElem h]
   rfl
  simp only [nO,ws,e]
  have:=T.l; have:=T.m12
  exact ⟨sz (by omega),rfl⟩
 ·have em:(r.map fun a:Nat=>PyData.int a).map F=(spl ks r).map s1:=by
   unfold spl
   rw [List.map_map,List.map_map]
   rfl
  rw [em]
  exact hq o'
end
end W29
namespace W29
open PySem L2 Pen2 Mch Tg
section
variable {S W0:Nat} {es:List Bool} {gs:List (List (Option Nat))}
theorem mz (M:MOk S W0 es gs) {s a:Nat} (hs:s < S) (ha:a < W0):∃ (rr:List (Option Nat)) (o:Option Nat),atI (gs.map aQ) (s:Int)=some (.list (rr.map goD))∧atI (rr.map goD) (a:Int)=some (goD o)∧stp gs (some s) a=o∧Val S o:=by
 obtain ⟨rr,o,h1,h2,h3,h4,_⟩:=mK M hs ha
 refine ⟨rr,o,?_,?_,h3,h4⟩
 ·rw [aW,List.getElem?_map,h1]
  rfl
 ·rw [aW,List.getElem?_map,h2]
  rfl
def dH (es:List Bool):Option Nat→Bool
 | none=>false
 | some j=>es.getD j false
theorem rY (M:MOk S W0 es gs) {s:Nat} (hs:s < S):atI (es.map PyData.bool) (s:Int)=some (.bool (es.getD s false)):=by
 have h1:s < es.length:=by rw [M.le]; exact hs
 rw [aW,List.getElem?_map,List.getElem?_eq_getElem h1,List.getD_eq_getElem?_getD,List.getElem?_eq_getElem h1]
 rfl
theorem Ab (M:MOk S W0 es gs) {t:Option Nat} (ht:Val S t):wt gs es 0 t=if dH es t then 1 else 0:=by
 cases t with
 | none=>rfl
 | some j =>
  have h1:j < es.length:=by rw [M.le]; exact ht j rfl
  show (es.map _).getD j 0=if es.getD j false=true then 1 else 0
  rw [List.getD_eq_getElem?_getD,List.getElem?_map,List.getElem?_eq_getElem h1,List.getD_eq_getElem?_getD,List.getElem?_eq_getElem h1]
  rfl
theorem jG (t:Option Nat) (q:List Nat) (a:Nat):gne gs t (q++[a])=stp gs (gne gs t q) a:=by
 show (q++[a]).foldl (stp gs) t=_
 rw [List.foldl_append]
 rfl
theorem nj:∀ r:List Nat,gne gs none r=none
 | []=>rfl
 | a :: r=>nj r
theorem jA {r:List Nat} {i:Nat} {t:D} (h:(r.map fun a:Nat=>PyData.int a)[i]?=some t):∃ a,r[i]?=some a∧t=.int (a:Nat):=by
 rw [List.getElem?_map] at h
 obtain ⟨a,h1,h2⟩:=Option.map_eq_some_iff.mp h
 exact ⟨a,h1,h2.symm⟩
theorem Ef (M:MOk S W0 es gs) {t:Option Nat} (ht:Val S t) {a:Nat} (ha:a < W0):W (jW [aB es gs,goD t,.int (a:Nat)]) (fun r=>r=(goD (stp gs t a),[none,none,none])):=by
 cases t with
 | none=>simp only [jW,qr,ws,goD]; rfl
 | some s =>
  obtain ⟨rr,o,h1,h2,h3,h4⟩:=mz M (ht s rfl) ha
  rw [h3]
  simp only [jW,qr,ws,goD,aB,h1,h2]
theorem kP (M:MOk S W0 es gs):Val S (some 0):=fun s e=>by cases e; exact M.s1
theorem AO (M:MOk S W0 es gs) {r:List Nat} (hr:∀ a∈r,a < W0):W (jf [aB es gs,.int 0,bw r]) (fun q=>q=(goD (gne gs (some 0) r),[none,none,none])):=by
 simp only [jf,qt,ws,bw]
 refine jd (fun i en=>∃ o,en=[some (aB es gs),some (.int 0),some (bw r),some (goD (gne gs (some 0) (r.take i))),o]) ⟨none,rfl⟩ (fun i t en ht ⟨o,e⟩=>?_) fun en ⟨o,e⟩=>?_
 ·subst e
  obtain ⟨a,h1,rfl⟩:=jA ht
  simp only [ws,oY]
  refine W.use (Ef M (cK M _ (kP M) fun x hx=>hr x (List.mem_of_mem_take hx)) (hr a (List.mem_of_getElem? h1))) ?_
  rintro _ rfl
  simp only [ws]
  rw [er h1,jG]
  exact ⟨_,rfl⟩
 ·subst e
  simp only [ws]
  rw [List.take_length]
theorem tj (M:MOk S W0 es gs) {t:Option Nat} (ht:Val S t):W (dZ [aB es gs,goD t]) (fun r=>r=(.bool (dH es t),[none,none])):=by
 cases t with
 | none=>simp only [dZ,jg,ws,goD]; rfl
 | some s=>simp only [dZ,jg,ws,goD,aB,rY M (ht s rfl),dH]
theorem oF (M:MOk S W0 es gs) {r:List Nat} (hr:∀ a∈r,a < W0):W (eX [aB es gs,bw r]) (fun q=>q=(.bool (dH es (gne gs (some 0) r)),[none,none])):=by
 simp only [eX,qp,ws]
 refine W.use (AO M hr) ?_
 rintro _ rfl
 simp only [ws]
 refine W.use (tj M (cK M _ (kP M) hr)) ?_
 rintro _ rfl
 simp only [ws]
theorem sP (M:MOk S W0 es gs) {r:List Nat} (hr:∀ a∈r,a < W0):W (cS [aB es gs,.int 0,bw r]) (fun q=>q=(goD (gne gs (some 0) r),[none,none,none])):=by
 simp only [cS,ik,ws,bw]
 refine jd (fun i en=>∃ o,en=[some (aB es gs),some (goD (gne gs (some 0) (r.take i))),some (bw r),o]) ⟨none,rfl⟩ (fun i t en ht ⟨o,e⟩=>?_) fun en ⟨o,e⟩=>?_
 ·subst e
  obtain ⟨a,h1,rfl⟩:=jA ht
  have hv:=cK M (r.take i) (kP M) fun x hx=>hr x (List.mem_of_mem_take hx)
  have hs:gne gs (some 0) (r.take (i+1))=stp gs (gne gs (some 0) (r.take i)) a:=by rw [er h1,jG]
  generalize gne gs (some 0) (r.take i)=t at hv hs
  rw [hs]
  cases t with
  | none=>simp only [ws,fy,goD]; exact ⟨_,rfl⟩
  | some s =>
   obtain ⟨rr,o,g1,g2,g3,g4⟩:=mz M (hv s rfl) (hr a (List.mem_of_getElem? h1))
   rw [g3]
   simp only [ws,fy,goD,aB,g1,g2]
   exact ⟨_,rfl⟩
 ·subst e
  simp only [ws]
  rw [List.take_length]
theorem sO (M:MOk S W0 es gs) {r:List Nat} (hr:∀ a∈r,a < W0):W (cR [aB es gs,bw r]) (fun q=>q=(.bool (dH es (gne gs (some 0) r)),[none,none])):=by
 simp only [cR,ij,ws]
 refine W.use (sP M hr) ?_
 rintro _ rfl
 simp only [ws]
 have hv:=cK M r (kP M) hr
 generalize gne gs (some 0) r=t at hv
 cases t with
 | none=>simp only [ws,goD]; rfl
 | some s=>simp only [ws,goD,aB,rY M (hv s rfl),dH]
theorem qE (M:MOk S W0 es gs) {s a k:Nat} (hs:s < S) (ha:a < W0):W (du [aB es gs,.int (s:Nat),.int (a:Nat),aK (it gs (base es) k)]) (fun r=>r=(.int (wt gs es k (stp gs (some s) a)),[none,none,none,none])):=by
 obtain ⟨rr,o,g1,g2,g3,g4⟩:=mz M hs ha
 rw [g3]
 cases o with
 | none =>
  simp only [du,ie,ws,aB,g1,g2,goD]
  rfl
 | some j =>
  have e:atI ((it gs (base es) k).map PyData.int) (j:Int)=some (.int ((it gs (base es) k).getD j 0)):=i6 (by rw [M.lit]; exact g4 j rfl)
  simp only [du,ie,ws,aB,g1,g2,goD,aK,e]
  rfl
theorem oN:∀ v:List Int,dG (v.map PyData.int)=some v
 | []=>rfl
 | x :: v=>by
  show (dG (v.map PyData.int)).map (x :: ·)=_
  rw [oN v]
  rfl
theorem qB (v:List Int):fK [.list (v.map PyData.int)]=some (.int v.sum):=by
 show (dG _).map _=_
 rw [oN]
 rfl
theorem rZ (M:MOk S W0 es gs) {r:List Nat} (hr:∀ a∈r,a < W0) (hl:r.length≤60) (hf:gne gs (some 0) r≠none):W (bW [aB es gs,cU gs es r.length,bw r]) (fun q=>q=(.int (ra gs es 0 (some 0) r),[none,none,none])):=by
 simp only [bW,ge,ws,bw]
 refine jd (fun i en=>∃ (c:Int) (s:Nat) (o5 o6 o7:Option D),en=[some (aB es gs),some (cU gs es r.length),some (bw r),some (.int c),some (.int (s:Nat)),o5,o6,o7]∧gne gs (some 0) (r.take i)=some s∧c+ra gs es 0 (some s) (r.drop i)=ra gs es 0 (some 0) r) ⟨0,0,none,none,none,rfl,rfl,by rw [List.drop_zero,Int.zero_add]⟩ (fun i t en ht ⟨c,s,o5,o6,o7,e,g1,g2⟩=>?_) fun en ⟨c,s,o5,o6,o7,e,g1,g2⟩=>?_
 ·subst e
  obtain ⟨t,ht2,rfl⟩:=iH ht
  obtain ⟨a,h1,rfl⟩:=jA ht2
  obtain ⟨hi,ea⟩:=List.getElem?_eq_some_iff.mp h1
  have ha:a < W0:=hr a (List.mem_of_getElem? h1)
  have hs:s < S:=cK M (r.take i) (kP M) (fun x hx=>hr x (List.mem_of_mem_take hx)) s g1
  have ed:r.drop i=a :: r.drop (i+1):=by rw [List.drop_eq_getElem_cons hi,ea]
  have dl:(r.drop (i+1)).length=r.length - i - 1:=by rw [List.length_drop]; omega
  have en:((r.length:Int) - (i:Nat) - 1)=((r.length - i - 1:Nat):Int):=by omega
  have e7:atI ((List.range (r.length+1)).map fun i=>aK (it gs (base es) i)) ((r.length - i - 1:Nat):Int)=some (aK (it gs (base es) (r.length - i - 1))):=Du (n:=r.length) (by omega)
  obtain ⟨rr,o,q1,q2,q3,q4⟩:=mz M hs ha
  have ne:stp gs (some s) a≠none:=fun z=>hf (by
   have e1:r=r.take i++a :: r.drop (i+1):=by rw [← ed,List.take_append_drop]
   have e2:gne gs (some 0) r=gne gs (stp gs (gne gs (some 0) (r.take i)) a) (r.drop (i+1)):=by
    conv=>lhs; rw [e1]
    show (r.take i++a :: r.drop (i+1)).foldl (stp gs) (some 0)=_
    rw [List.foldl_append]
    rfl
   rw [e2,g1,z,nj])
  simp only [ws,io,bw,cU,List.length_map,en,e7,Int.toNat_natCast]
  have w2:=M.w2
  refine ⟨by omega,ft (fun t=>match t with
   | .int b=>.int (wt gs es (r.length - i - 1) (stp gs (some s) b.toNat))
   | _=>.none) (by rw [gi]; exact sz (by have:=M.w2; omega)) (fun t ht=>?_) fun o'=>?_⟩
  ·obtain ⟨j,hj,ej⟩:=List.mem_iff_getElem.mp ht
   obtain ⟨b1,rfl⟩:=kR (List.getElem?_eq_some_iff.mpr ⟨hj,ej⟩)
   simp only [ws,ip,Int.zero_add]
   refine W.use (qE M hs (a:=j) (by omega)) ?_
   rintro _ rfl
   simp only [ws]
   rfl
  ·have em:(fN 0 a).map (fun t=>match t with
     | PyData.int b=>PyData.int (wt gs es (r.length - i - 1) (stp gs (some s) b.toNat))
     | _=>.none)=((List.range a).map fun b=>wt gs es (r.length - i - 1) (stp gs (some s) b)).map PyData.int:=by
    unfold fN
    rw [List.map_map,List.map_map]
    refine List.map_congr_left fun b _=>?_
    show PyData.int (wt gs es _ (stp gs (some s) (0+(b:Int)).toNat))=_
    rw [Int.zero_add,Int.toNat_natCast]
    rfl
   rw [em]
   simp only [ws,qB,aB,q1,q2]
   rw [q3] at ne
   cases o with
   | none=>exact absurd rfl ne
   | some j =>
    refine ⟨_,j,_,_,_,rfl,by rw [er h1,jG,g1,q3],?_⟩
    rw [← g2,ed]
    show _=c+(((List.range a).map fun b=>wt gs es ((r.drop (i+1)).length+0) (stp gs (some s) b)).sum+ra gs es 0 (stp gs (some s) a) (r.drop (i+1)))
    rw [q3,dl,Int.add_assoc]
    rfl
 ·subst e
  rw [iG,List.length_map,List.drop_length] at g2
  simp only [ws]
  rw [← g2]
  show _=(PyData.int (c+0),_)
  rw [Int.add_zero]
end
end W29
namespace W29
open PySem L2 Pen2 Mch Tg
section
variable {S W0:Nat} {es:List Bool} {gs:List (List (Option Nat))} {ks:List Str}
def num (gs:List (List (Option Nat))) (es:List Bool) (r:List Nat):Int:=((List.range r.length).map fun l=>wt gs es l (some 0)).sum+ra gs es 0 (some 0) r
theorem Bh {t:Option Nat} (h:dH es t=true):t≠none:=fun z=>by rw [z] at h; cases h
theorem qQ (M:MOk S W0 es gs) (T:TX W0 ks) {r:List Nat} (hr:∀ a∈r,a < W0) (hl:r.length≤60) (hf:dH es (gne gs (some 0) r)=true):W (bJ [tD ks,aB es gs,.str (ofL (spl ks r))]) (fun q=>q=(.int (num gs es r),[none,none,none])):=by
 have ls:(spl ks r).length=r.length:=List.length_map _
 simp only [bJ,eY,ws]
 refine W.use (lT T (by omega) (iY T hr)) ?_
 rintro _ rfl
 simp only [ws]
 refine W.use (j7 T (iY T hr) (by omega)) ?_
 rintro _ rfl
 rw [kQ T hr]
 simp only [ws]
 refine W.use (oF M hr) ?_
 rintro _ rfl
 rw [hf]
 simp only [ws,bw,List.length_map]
 refine W.of (show eG _=_ from sm M hl) ?_
 have e1:dL ((List.range (r.length+1)).map fun i=>aK (it gs (base es) i)) none (some (r.length:Int))=(List.range r.length).map fun i=>aK (it gs (base es) i):=by
  rw [ku,← List.map_take,List.take_range,Nat.min_eq_left (by omega)]
 simp only [ws,cU,e1,List.length_map]
 refine ft (fun t=>(ixA t (.int 0)).getD .none) (by rw [List.length_map,List.length_range]; exact sz (by omega)) (fun t ht=>?_) fun o=>?_
 ·obtain ⟨i,_,rfl⟩:=List.mem_map.mp ht
  have e:ixA (aK (it gs (base es) i)) (.int 0)=some (.int (wt gs es i (some 0))):=i6 (j:=0) (by rw [M.lit]; exact M.s1)
  simp only [iS,ws,e]
  rfl
 ·have em:((List.range r.length).map fun i=>aK (it gs (base es) i)).map (fun t=>(ixA t (.int 0)).getD .none)=((List.range r.length).map fun l=>wt gs es l (some 0)).map PyData.int:=by
   rw [List.map_map,List.map_map]
   refine List.map_congr_left fun i _=>?_
   have e:ixA (aK (it gs (base es) i)) (.int 0)=some (.int (wt gs es i (some 0))):=i6 (j:=0) (by rw [M.lit]; exact M.s1)
   show (ixA _ _).getD _=_
   rw [e]
   rfl
  rw [em]
  simp only [ws,qB]
  refine W.use (rZ M hr hl (Bh hf)) ?_
  rintro _ rfl
  simp only [ws]
  rfl
theorem qP {f g:MS} {en en1:En} (h1:f en=some (.nx en1)) (h2:g en1=none):ak f g en=none:=by unfold ak; rw [h1]; exact h2
theorem AD {f g:MS} {en:En} (h1:f en=none):ak f g en=none:=by unfold ak; rw [h1]; rfl
theorem FR {c:MT} {en en1:En} {b:Bool} (h1:c en=some (b,en1)) (hb:b=true):sIf c dD bq en=none:=by unfold sIf; rw [h1,hb]; rfl
theorem FS {n:Nat} {dps:List Nat} {b:MS} {ts:List D} (h:b (ts.map some++List.replicate n none)=none):fnF n dps b ts=none:=by unfold fnF; rw [h]; rfl
theorem qu {f:MS} {m:MX} {en en1:En} (h1:f en=some (.nx en1)) (h2:m en1=some ()):kL f m en=some ():=by unfold kL; rw [h1]; exact h2
theorem FC {c:MT} {m:MX} {en en1:En} {b:Bool} (h1:c en=some (b,en1)) (hb:b=true) (h2:m en1=some ()):xIf c m en=some ():=by unfold xIf; rw [h1,hb]; exact h2
theorem DJ (M:MOk S W0 es gs) (T:TX W0 ks) {r:List Nat} (hr:∀ a∈r,a < W0) (hl:r.length≤60) (hf:dH es (gne gs (some 0) r)=false):bJ [tD ks,aB es gs,.str (ofL (spl ks r))]=none∧ci [tD ks,aB es gs,.str (ofL (spl ks r))]=some ():=by
 have ls:(spl ks r).length=r.length:=List.length_map _
 obtain ⟨_,e1,rfl⟩:=(lT T (cs:=spl ks r) (by omega) (iY T hr)).ex
 obtain ⟨_,e2',rfl⟩:=(j7 T (cs:=spl ks r) (iY T hr) (by omega)).ex
 rw [kQ T hr] at e2'
 obtain ⟨_,e3,rfl⟩:=(oF M hr).ex
 have s1:sIf (cW (tV (ar cn (ae (ac 0) (ae (ac 2) ah))))) dD bq [some (tD ks),some (aB es gs),some (.str (ofL (spl ks r))),none,none,none]=some (.nx [some (tD ks),some (aB es gs),some (.str (ofL (spl ks r))),none,none,none]):=gu (rN (ef (cL rfl rfl e1 rfl))) rfl rfl
 have s2:aq 3 (ar cO (ae (ac 0) (ae (ac 2) ah))) [some (tD ks),some (aB es gs),some (.str (ofL (spl ks r))),none,none,none]=some (.nx [some (tD ks),some (aB es gs),some (.str (ofL (spl ks r))),some (bw r),none,none]):=bH (cL rfl rfl e2' rfl) rfl
 have s3:cW (tV (ar eX (ae (ac 1) (ae (ac 3) ah)))) [some (tD ks),some (aB es gs),some (.str (ofL (spl ks r))),some (bw r),none,none]=some (!dH es (gne gs (some 0) r),[some (tD ks),some (aB es gs),some (.str (ofL (spl ks r))),some (bw r),none,none]):=rN (ef (cL rfl rfl e3 rfl))
 exact ⟨FS (b:=eY) (qP s1 (qP s2 (AD (FR s3 (by rw [hf]; rfl))))),show gf _=some () from qu s1 (qu s2 (FC s3 (by rw [hf]; rfl) rfl))⟩
def ms (gs:List (List (Option Nat))) (es:List Bool) (r:List Nat):D:=if dH es (gne gs (some 0) r) then .int (num gs es r) else .none
theorem Ad (M:MOk S W0 es gs) (T:TX W0 ks) {r:List Nat} (hr:∀ a∈r,a < W0) (hl:r.length≤60):W (cP [tD ks,aB es gs,.str (ofL (spl ks r))]) (fun q=>q=(ms gs es r,[none,none,none])):=by
 have key:pp 3 [0,0,0] bJ ci (ae (ac 0) (ae (ac 1) (ae (ac 2) ah))) [some (tD ks),some (aB es gs),some (.str (ofL (spl ks r))),some .none]=some (.nx [some (tD ks),some (aB es gs),some (.str (ofL (spl ks r))),some (ms gs es r)]):=by
  show (match bJ [tD ks,aB es gs,.str (ofL (spl ks r))] with
   | some q=>_
   | none=>_)=_
  unfold ms
  cases hf:dH es (gne gs (some 0) r) with
  | true =>
   obtain ⟨_,e,rfl⟩:=(qQ M T hr hl hf).ex
   rw [e]
   rfl
  | false =>
   obtain ⟨e,x⟩:=DJ M T hr hl hf
   rw [e]
   show (ci [tD ks,aB es gs,.str (ofL (spl ks r))]).map _=_
   rw [x]
   rfl
 exact W.of (show cP _=_ from bT (b:=ig) (az rfl (az key rfl))) rfl
end
end W29
namespace W29
open PySem L2 Pen2 Mch Tg
theorem Gw {i:Nat} {f:ME} {ts0:List D} {en:En} {Q:D × En→Prop} (h0:en[i]?=some (some (.list ts0))) (h:W (f en) (fun r=>∃ us ts,r.1=.list us∧r.2[i]?=some (some (.list ts))∧ts.length+us.length≤sizeLine∧Q (.none,r.2.set i (some (.list (ts++us)))))):W (jM i f en) Q:=by
 obtain ⟨⟨t,en1⟩,e,us,ts,g1,g2,g3,g4⟩:=h.ex
 have g1':t=.list us:=g1
 subst g1'
 refine W.of ?_ g4
 unfold jM
 rw [h0]
 show (f en).bind _=_
 rw [e]
 show (match PyData.list us,(en1[i]?).join with
  | .list us,some (.list ts)=>if ts.length+us.length≤sizeLine then some (PyData.none,en1.set i (some (.list (ts++us)))) else none
  | _,_=>none)=_
 rw [show en1[i]?=some (some (.list ts)) from g2]
 exact if_pos g3
def ext (W0:Nat) (r:List Nat):List (List Nat):=(List.range W0).map fun a=>r++[a]
theorem sw (W0 n:Nat):rws W0 (n+1)=(rws W0 n).flatMap (ext W0):=rfl
theorem iK (W0 n:Nat):cF W0 (n+1)=cF W0 n++rws W0 (n+1):=by
 unfold cF
 rw [List.range_succ (n:=n+1),List.flatMap_append]
 simp
theorem BE {W0:Nat} {i n:Nat} (h:i≤n):(cF W0 i).length≤(cF W0 n).length:=by
 induction n with
 | zero=>rw [show i=0 by omega]; exact Nat.le_refl _
 | succ n ih =>
  by_cases e:i=n+1
  ·rw [e]; exact Nat.le_refl _
  ·have:=ih (by omega)
   rw [iK,List.length_append]
   omega
theorem Aj {n W0:Nat} (hn:n≤12) (hW:W0≤12) (hB:(cF W0 n).length≤1000):W (cQ [.int (W0:Nat),.int (n:Nat)]) (fun r=>r=(.list ((cF W0 n).map bw),[none,none])):=by
 simp only [cQ,ii,ws,Int.toNat_natCast]
 refine ⟨by omega,jd (fun i en=>∃ x4 x5 x6,en=[some (.int (W0:Nat)),some (.int (n:Nat)),some (.list ((cF W0 i).map bw)),some (.list ((rws W0 i).map bw)),x4,x5,x6]) ⟨none,none,none,rfl⟩ (fun i t en ht ⟨x4,x5,x6,e⟩=>?_) fun en ⟨x4,x5,x6,e⟩=>?_⟩
 ·subst e
  obtain ⟨hi,rfl⟩:=kR ht
  have b1:(cF W0 (i+1)).length≤1000:=Nat.le_trans (BE (by omega)) hB
  rw [iK,List.length_append] at b1
  have fl:∀ j,(((rws W0 i).take j).flatMap (ext W0)).length=((rws W0 i).take j).length * W0:=fun j=>jH _
  have fl':(rws W0 (i+1)).length=(rws W0 i).length * W0:=jH _
  simp only [ws,iO]
  refine jd (fun j en=>∃ x6,en=[some (.int (W0:Nat)),some (.int (n:Nat)),some (.list ((cF W0 i).map bw)),some (.list ((rws W0 i).map bw)),some (.int (0+(i:Nat))),some (.list ((((rws W0 i).take j).flatMap (ext W0)).map bw)),x6]) ⟨_,rfl⟩ (fun j u en hu ⟨x6,e⟩=>?_) fun en ⟨x6,e⟩=>?_
  ·subst e
   rw [List.getElem?_map] at hu
   obtain ⟨q,hq,rfl⟩:=Option.map_eq_some_iff.mp hu
   have hj:j < (rws W0 i).length:=(List.getElem?_eq_some_iff.mp hq).1
   have lq:q.length=i:=(e8 (List.mem_of_getElem? hq)).1
   have tk:((rws W0 i).take j).length=j:=by rw [List.length_take]; omega
   have mj:j * W0+W0≤(rws W0 i).length * W0:=by
    have:=Nat.mul_le_mul_right W0 (show j+1≤(rws W0 i).length by omega)
    rw [Nat.succ_mul] at this
    exact this
   simp only [ws,iP]
   refine Gw rfl ?_
   simp only [ws,Int.toNat_natCast]
   refine ⟨by omega,ft (fun t=>.list ((q.map fun a:Nat=>PyData.int a)++[t])) (by rw [gi]; exact sz (by omega)) (fun t ht=>?_) fun o'=>?_⟩
   ·simp only [ws,iT,bw,List.length_map]
    exact sz (by show q.length+1≤1000; omega)
   ·have em:(fN 0 W0).map (fun t=>PyData.list ((q.map fun a:Nat=>PyData.int a)++[t]))=(ext W0 q).map bw:=by
     unfold fN ext
     rw [List.map_map,List.map_map]
     refine List.map_congr_left fun a _=>?_
     show PyData.list ((q.map fun a:Nat=>PyData.int a)++[.int (0+(a:Int))])=.list ((q++[a]).map fun a:Nat=>.int a)
     rw [Int.zero_add,List.map_append]
     rfl
    rw [em]
    have le:(ext W0 q).length=W0:=by unfold ext; rw [List.length_map,List.length_range]
    simp only [ws]
    refine ⟨_,_,rfl,rfl,?_,?_⟩
    ·rw [List.length_map,List.length_map,fl j,tk,le]
     exact sz (by omega)
    ·show ∃ x6,_=_
     refine ⟨some (bw q),?_⟩
     rw [er hq,List.flatMap_append,List.map_append]
     simp only [List.flatMap_cons,List.flatMap_nil,List.append_nil]
  ·subst e
   rw [List.length_map,List.take_length,← sw]
   simp only [ws]
   refine ⟨?_,?_⟩
   ·exact sz (by omega)
   ·rw [iK,List.map_append]
    exact ⟨_,_,_,rfl⟩
 ·subst e
  simp only [ws,gi]
theorem AG {W0:Nat} (h1:1≤W0) (h2:W0≤12):∃ mo:Nat,atI [PyData.int 0,.int 12,.int 7,.int 4,.int 3,.int 3,.int 2,.int 2,.int 2,.int 2,.int 2,.int 2,.int 2] (W0:Int)=some (.int (mo:Nat))∧mo≤12∧(cF W0 mo).length≤1000:=by
 have:W0=1∨W0=2∨W0=3∨W0=4∨W0=5∨W0=6∨W0=7∨W0=8∨W0=9∨W0=10∨W0=11∨W0=12:=by omega
 rcases this with rfl | rfl | rfl | rfl | rfl | rfl | rfl | rfl | rfl | rfl | rfl | rfl
 ·exact ⟨12,rfl,by decide,by decide +kernel⟩
 ·exact ⟨7,rfl,by decide,by decide +kernel⟩
 ·exact ⟨4,rfl,by decide,by decide +kernel⟩
 ·exact ⟨3,rfl,by decide,by decide +kernel⟩
 ·exact ⟨3,rfl,by decide,by decide +kernel⟩
 ·exact ⟨2,rfl,by decide,by decide +kernel⟩
 ·exact ⟨2,rfl,by decide,by decide +kernel⟩
 ·exact ⟨2,rfl,by decide,by decide +kernel⟩
 ·exact ⟨2,rfl,by decide,by decide +kernel⟩
 ·exact ⟨2,rfl,by decide,by decide +kernel⟩
 ·exact ⟨2,rfl,by decide,by decide +kernel⟩
 ·exact ⟨2,rfl,by decide,by decide +kernel⟩
end W29
namespace W29
open PySem L2 Pen2 Mch Tg
variable {S W0:Nat} {es:List Bool} {gs:List (List (Option Nat))} {ks:List Str}
theorem mX:∀ es:List Bool,aE (es.map .bool)=true∧bg (es.map .bool)=0∧bD (es.map .bool) (es.map .bool)=true
 | []=>⟨by simp [aE],by simp [bg],by simp [bD]⟩
 | b :: r=>by
  obtain ⟨h1,h2,h3⟩:=mX r
  refine ⟨?_,?_,?_⟩
  ·simp [aE,aA,h1]
  ·simp [bg,cy,h2]
  ·simp [bD,peq,h3]
theorem qR:∀ r:List (Option Nat),aE (r.map goD)=true∧bg (r.map goD)=0∧bD (r.map goD) (r.map goD)=true
 | []=>⟨by simp [aE],by simp [bg],by simp [bD]⟩
 | b :: r=>by
  obtain ⟨h1,h2,h3⟩:=qR r
  cases b with
  | none=>exact ⟨by simp [aE,aA,goD,h1],by simp [bg,cy,goD,h2],by simp [bD,peq,goD,h3]⟩
  | some j=>exact ⟨by simp [aE,aA,goD,h1],by simp [bg,cy,goD,h2],by simp [bD,peq,goD,h3]⟩
theorem oC:∀ gs:List (List (Option Nat)),aE (gs.map aQ)=true∧bg (gs.map aQ)≤1∧bD (gs.map aQ) (gs.map aQ)=true
 | []=>⟨by simp [aE],by simp [bg],by simp [bD]⟩
 | b :: r=>by
  obtain ⟨h1,h2,h3⟩:=oC r
  obtain ⟨g1,g2,g3⟩:=qR b
  refine ⟨?_,?_,?_⟩
  ·simp [aE,aA,aQ,h1,g1]
  ·simp [bg,cy,aQ,g2]; omega
  ·simp [bD,peq,aQ,h3,g3]
theorem AJ (es:List Bool) (gs:List (List (Option Nat))):eqD (aB es gs) (aB es gs)=some (.bool true):=by
 obtain ⟨h1,h2,h3⟩:=mX es
 obtain ⟨g1,g2,g3⟩:=oC gs
 have n:aA (aB es gs)=true:=by simp [aB,aA,aE,h1,g1]
 have d:cy (aB es gs)≤60:=by
  have:cy (aB es gs)=max (bg (es.map .bool)+1) (max (bg (gs.map aQ)+1) 0)+1:=by simp [aB,cy,bg]
  rw [this,h2]
  omega
 have p:peq (aB es gs) (aB es gs)=true:=by simp [aB,peq,bD,h3,g3]
 unfold eqD grd
 rw [if_pos ⟨n,n,d⟩,p]
theorem uc {m:Nat} {r:List Nat} (h:r∈cF W0 m):r.length≤m∧∀ a∈r,a < W0:=by
 obtain ⟨n,hn,h⟩:=List.mem_flatMap.mp h
 obtain ⟨h1,h2⟩:=e8 h
 have:=List.mem_range.mp hn
 exact ⟨by omega,h2⟩
theorem sQ:Ei qo:=by
 intro ns hn
 suffices W (qo [.list (ns.map .int)]) (fun r=>∃ o,r=(.bool true,o)) by
  obtain ⟨_,e,o,rfl⟩:=this.ex
  exact ⟨o,e⟩
 obtain ⟨s,k1,l1,e1,a1,a2,a3,a4,a5⟩:=su (ns:=ns) (k:=0) (l:=0) (by decide) (by decide) (by decide)
 obtain ⟨es,gs,k2,l2,e2,b1,b2,b3,b4,b5,b6,b7⟩:=AI (mo:=7) (ns:=ns) (k:=k1) (l:=l1) (W:=s) (by decide) (by decide) a2 (by omega) (by omega) a5
 have M:MOk es.length s es gs:=⟨b1,by omega,a1,a2,rfl,b3,b4⟩
 simp only [ws,qo,uj]
 refine W.of (show bV [.list (ns.map .int),.int 0]=some (penD ns 0 0,[none,none]) from rfl) ?_
 simp only [ws]
 refine W.of e1 ?_
 simp only [ws]
 refine W.of e2 ?_
 simp only [ws]
 refine W.of (show bV [.list (ns.map .int),.int 28]=some (penD ns 28 0,[none,none]) from rfl) ?_
 simp only [ws]
 refine W.use (qz (n:=28) ⟨ns,28,0,rfl,by decide,by decide,by decide⟩ (by decide) a1 a2) ?_
 rintro _ ⟨ks,p',rfl,T,hp'⟩
 simp only [ws,oJ T,aB]
 refine ft (fun t=>t) (by rw [List.length_map,b3]; exact sz (by omega)) (fun t ht=>?_) fun o=>?_
 ·obtain ⟨r,_,rfl⟩:=List.mem_map.mp ht
  simp only [ws,sd,aQ]
 ·rw [List.map_id']
  simp only [ws]
  obtain ⟨mo,em,m12,mB⟩:=AG a1 a2
  simp only [ws,em]
  refine W.use (Aj m12 a2 mB) ?_
  rintro _ rfl
  simp only [ws]
  refine jd (fun i en=>∃ o8 o9,en=[some (.list (ns.map .int)),some (penD ns k2 l2),some (.int (s:Nat)),some (aB es gs),some (tD ks),some (.str (sgs ks)),some (aB es gs),some (.int (((cF s mo).take i).map fun q=>wt gs es 0 (gne gs (some 0) q)).sum),o8,o9]) ⟨none,none,rfl⟩ (fun i t en ht ⟨o8,o9,e⟩=>?_) fun en ⟨o8,o9,e⟩=>?_
  ·subst e
   rw [List.getElem?_map] at ht
   obtain ⟨r,hr,rfl⟩:=Option.map_eq_some_iff.mp ht
   obtain ⟨lr,mr⟩:=uc (List.mem_of_getElem? hr)
   have due:(((cF s mo).take i).map fun q=>wt gs es 0 (gne gs (some 0) q)).sum=num gs es r:=by
    obtain ⟨hi,ei⟩:=List.getElem?_eq_some_iff.mp hr
    refine Fu M (m:=mo) (post:=(cF s mo).drop (i+1)) ?_ b1
    rw [← ei,← List.drop_eq_getElem_cons hi,List.take_append_drop]
   have nx:(((cF s mo).take (i+1)).map fun q=>wt gs es 0 (gne gs (some 0) q)).sum=num gs es r+if dH es (gne gs (some 0) r) then 1 else 0:=by
    rw [er hr,List.map_append,List.sum_append,due,← Ab M (cK M r (kP M) mr)]
    simp
   rw [due,nx]
   simp only [ws,r8,bw]
   refine ss T mr (by omega) fun o'=>?_
   have ls:(spl ks r).length=r.length:=List.length_map _
   simp only [ws,oK (cs:=spl ks r) (by omega)]
   refine W.use (Ad M T mr (by omega)) ?_
   rintro _ rfl
   simp only [ws]
   refine W.use (sO M mr) ?_
   rintro _ rfl
   unfold ms
   cases hf:dH es (gne gs (some 0) r) with
   | false =>
    simp only [ws,Bool.false_eq_true,if_false,Int.add_zero]
    exact ⟨_,_,rfl⟩
   | true =>
    simp only [ws,if_true]
    exact ⟨_,_,rfl⟩
  ·subst e
   simp only [ws,AJ]
   exact ⟨_,rfl⟩
end W29
set_option maxHeartbeats 4000000
namespace W29
open PySem L2
theorem pH {α β:Type} {us:List α} {x0:β} (h:us.length=[x0].length):∃ a0,us=[a0]:=by
 cases us with
 | nil=>cases h
 | cons a0 r=>exact ⟨a0,by rw [List.length_eq_zero_iff.mp (show r.length=0 from Nat.succ.inj h)]⟩
theorem dS {α β:Type} {us:List α} {x0 x1:β} (h:us.length=[x0,x1].length):∃ a0 a1,us=[a0,a1]:=by
 cases us with
 | nil=>cases h
 | cons a0 r=>obtain ⟨a1,rfl⟩:=pH (us:=r) (x0:=x1) (Nat.succ.inj h); exact ⟨a0,a1,rfl⟩
theorem gJ {α β:Type} {us:List α} {x0 x1 x2:β} (h:us.length=[x0,x1,x2].length):∃ a0 a1 a2,us=[a0,a1,a2]:=by
 cases us with
 | nil=>cases h
 | cons a0 r=>obtain ⟨a1,a2,rfl⟩:=dS (us:=r) (x0:=x1) (x1:=x2) (Nat.succ.inj h); exact ⟨a0,a1,a2,rfl⟩
theorem Ee {α β:Type} {us:List α} {x0 x1 x2 x3:β} (h:us.length=[x0,x1,x2,x3].length):∃ a0 a1 a2 a3,us=[a0,a1,a2,a3]:=by
 cases us with
 | nil=>cases h
 | cons a0 r=>obtain ⟨a1,a2,a3,rfl⟩:=gJ (us:=r) (x0:=x1) (x1:=x2) (x2:=x3) (Nat.succ.inj h); exact ⟨a0,a1,a2,a3,rfl⟩
theorem all_mk {l:PySem.W.OpenLaw} {w:World} {K:PySem.W.Frag} {h:Heap} {mg:Str→Option Value} {fa f0 f1 f2 f3 f4 f5 f6 f7 f8 f9 f10 f11 f12 f13 f14 f15 f16 f17 f18 f19 f20 f21 f22 f23 f24:Addr} {tk0:Tok} {CNoFit CWordError:Addr} (X:K.In h) (G:h.Ns mainGlobals mg) (hfa:mg "law"=some (.ref fa))
  (d0:Df K "signs_of" iL f0)
  (d1:Df K "is_word" hC f1)
  (d2:Df K "row_of" je f2)
  (d3:Df K "is_end" lA f3)
  (d4:Df K "led" uf f4)
  (d5:Df K "gone" qb f5)
  (d6:Df K "lets" qa f6)
  (d7:Df K "numbers_of_none" cj f7)
  (d8:Df K "numbers_of_one_more" bI f8)
  (d9:Df K "table" nK f9)
  (d10:Df K "rows_by" jS f10)
  (d11:Df K "rows_ahead" ek f11)
  (d12:Df K "number_of" dN f12)
  (d13:Df K "_law_pen" iM f13)
  (d14:Df K "_law_mixed" fZ f14)
  (d15:Df K "_law_take" hV f15)
  (d16:Df K "_law_signs" fY f16)
  (d17:Df K "_law_goal" h9 f17)
  (d18:Df K "_law_machine" cr f18)
  (d19:Df K "_law_tongue" dO f19)
  (d20:Df K "_law_rows" eV f20)
  (d21:Df K "_law_gone" hZ f21)
  (d22:Df K "_law_lets" hX f22)
  (d23:Df K "_law_told" hU f23)
  (d24:Df K "law" gZ f24)
  (y0:PySem.W.nsIn K mainGlobals "MOST_SIGNS_OF_A_WORD"=some (some (.int 60 tk0)))
  (cNoFit:PySem.W.nsIn K mainGlobals "NoFit"=some (some (.ref CNoFit))) (xNoFit:PySem.W.excIn K CNoFit vE "ValueError.__new__"=true)
  (cWordError:PySem.W.nsIn K mainGlobals "WordError"=some (some (.ref CWordError))) (xWordError:PySem.W.excIn K CWordError vE "ValueError.__new__"=true)
  (unumber_of:jZ K CNoFit CWordError=true)
  (z0:PySem.W.nsIn K mainGlobals "abs"=some none)
  (z1:PySem.W.nsIn K mainGlobals "all"=some none)
  (z2:PySem.W.nsIn K mainGlobals "bool"=some none)
  (z3:PySem.W.nsIn K mainGlobals "enumerate"=some none)
  (z4:PySem.W.nsIn K mainGlobals "int"=some none)
  (z5:PySem.W.nsIn K mainGlobals "isinstance"=some none)
  (z6:PySem.W.nsIn K mainGlobals "len"=some none)
  (z7:PySem.W.nsIn K mainGlobals "list"=some none)
  (z8:PySem.W.nsIn K mainGlobals "max"=some none)
  (z9:PySem.W.nsIn K mainGlobals "min"=some none)
  (z10:PySem.W.nsIn K mainGlobals "range"=some none)
  (z11:PySem.W.nsIn K mainGlobals "str"=some none)
  (z12:PySem.W.nsIn K mainGlobals "sum"=some none)
  (z13:PySem.W.nsIn K mainGlobals "tuple"=some none) :
  ∃ fd:FuncData,(∀ (s:Shared) (v:Value),BindsTo s fd ⟨[v],[]⟩ [("_law_script",v)])∧∀ base:Heap,K.In base→base.Ns mainGlobals mg→FnOk l.prog w K mg base CX0 6 fa fd ["_law_script"] (j6 K):=by
 have e:=hfa.symm.trans (PySem.W.mg_of X G d24.a)
 cases e
 have v0:=PySem.W.mg_of X G y0
 have EXnumber_of:ExcP K mg "NoFit" "WordError" CNoFit CWordError:=⟨PySem.W.mg_of X G cNoFit,PySem.W.mg_of X G cWordError,xNoFit,xWordError,unumber_of⟩
 have T:Bl mg:=⟨PySem.W.mg_none_of X G z0,PySem.W.mg_none_of X G z1,PySem.W.mg_none_of X G z2,PySem.W.mg_none_of X G z3,PySem.W.mg_none_of X G z4,PySem.W.mg_none_of X G z5,PySem.W.mg_none_of X G z6,PySem.W.mg_none_of X G z7,PySem.W.mg_none_of X G z8,PySem.W.mg_none_of X G z9,PySem.W.mg_none_of X G z10,PySem.W.mg_none_of X G z11,PySem.W.mg_none_of X G z12,PySem.W.mg_none_of X G z13⟩
 obtain ⟨oc,od,kV,dc,pm,an,cd,ct,sl,ll,lc⟩:=d24.l
 have FL:=no (st:=gZ) ll lc d24.k
 refine ⟨PySem.W.fnOf "law" "law" (cM gZ) (bO gZ) (am gZ) .none kV dc pm an cd ct,fun s v=>.of_eq rfl,fun base _ _=>?_⟩
 have g0:Kn l.prog w K mg base 1 "signs_of" ["tongue"] (spF K [0] 3 ca):=d0.kn X G (fun _ _ _ _ _ _ us hl=>by obtain ⟨a0,rfl⟩:=pH hl; rfl) fun _ F=>pA (k:=0) T    F
 have g1:Kn l.prog w K mg base 2 "is_word" ["tongue", "thing"] (spF K [0,0] 3 cn):=d1.kn X G (fun _ _ _ _ _ _ us hl=>by obtain ⟨a0,a1,rfl⟩:=dS hl; rfl) fun _ F=>qM (k:=1) T v0 (g0.mono (by decide))  F
 have g2:Kn l.prog w K mg base 2 "row_of" ["tongue", "word"] (spF K [0,0] 3 cO):=d2.kn X G (fun _ _ _ _ _ _ us hl=>by obtain ⟨a0,a1,rfl⟩:=dS hl; rfl) fun _ F=>sI (k:=1) T  (g0.mono (by decide))  F
 have g3:Kn l.prog w K mg base 1 "is_end" ["machine", "stand"] (spF K [0,0] 0 dZ):=d3.kn X G (fun _ _ _ _ _ _ us hl=>by obtain ⟨a0,a1,rfl⟩:=dS hl; rfl) fun _ F=>sJ (k:=0) T    F
 have g4:Kn l.prog w K mg base 1 "led" ["machine", "stand", "sign"] (spF K [0,0,0] 0 jW):=d4.kn X G (fun _ _ _ _ _ _ us hl=>by obtain ⟨a0,a1,a2,rfl⟩:=gJ hl; rfl) fun _ F=>FP (k:=0) T    F
 have g5:Kn l.prog w K mg base 2 "gone" ["machine", "stand", "row"] (spF K [0,0,0] 0 jf):=d5.kn X G (fun _ _ _ _ _ _ us hl=>by obtain ⟨a0,a1,a2,rfl⟩:=gJ hl; rfl) fun _ F=>D7 (k:=1) T  (g4.mono (by decide))  F
 have g6:Kn l.prog w K mg base 3 "lets" ["machine", "row"] (spF K [0,0] 0 eX):=d6.kn X G (fun _ _ _ _ _ _ us hl=>by obtain ⟨a0,a1,rfl⟩:=dS hl; rfl) fun _ F=>D6 (k:=2) T  (g3.mono (by decide)) (g5.mono (by decide))  F
 have g7:Kn l.prog w K mg base 1 "numbers_of_none" ["machine"] (spF K [0] 3 bd):=d7.kn X G (fun _ _ _ _ _ _ us hl=>by obtain ⟨a0,rfl⟩:=pH hl; rfl) fun _ F=>jh (k:=0) T    F
 have g8:Kn l.prog w K mg base 1 "numbers_of_one_more" ["machine", "fewer"] (spF K [0,0] 3 aS):=d8.kn X G (fun _ _ _ _ _ _ us hl=>by obtain ⟨a0,a1,rfl⟩:=dS hl; rfl) fun _ F=>gj (k:=0) T    F
 have g9:Kn l.prog w K mg base 2 "table" ["machine", "most"] (spF K [0,0] 0 eG):=d9.kn X G (fun _ _ _ _ _ _ us hl=>by obtain ⟨a0,a1,rfl⟩:=dS hl; rfl) fun _ F=>AC (k:=1) T  (g7.mono (by decide)) (g8.mono (by decide))  F
 have g10:Kn l.prog w K mg base 1 "rows_by" ["machine", "stand", "sign", "behind"] (spF K [0,0,0,0] 0 du):=d10.kn X G (fun _ _ _ _ _ _ us hl=>by obtain ⟨a0,a1,a2,a3,rfl⟩:=Ee hl; rfl) fun _ F=>qL (k:=0) T    F
 have g11:Kn l.prog w K mg base 2 "rows_ahead" ["machine", "lists", "row"] (spF K [0,0,0] 0 bW):=d11.kn X G (fun _ _ _ _ _ _ us hl=>by obtain ⟨a0,a1,a2,rfl⟩:=gJ hl; rfl) fun _ F=>mT (k:=1) T  (g10.mono (by decide))  F
 have g12:Kn l.prog w K mg base 4 "number_of" ["tongue", "machine", "word"] (spF K [0,0,0] 3 bJ):=d12.kn X G (fun _ _ _ _ _ _ us hl=>by obtain ⟨a0,a1,a2,rfl⟩:=gJ hl; rfl) fun _ F=>nP (k:=3) T  (g2.mono (by decide)) (g9.mono (by decide)) (g1.mono (by decide)) (g6.mono (by decide)) (g11.mono (by decide))  F
 have g12X:KnX l.prog w K mg base 4 "number_of" ["tongue", "machine", "word"] (spX K [0,0,0] CNoFit ci):=d12.knX X G (fun _ _ _ _ _ _ us hl=>by obtain ⟨a0,a1,a2,rfl⟩:=gJ hl; rfl) fun _ F=>nZ (k:=3) T  (g2.mono (by decide)) (g9.mono (by decide)) (g1.mono (by decide)) (g6.mono (by decide)) (g11.mono (by decide)) F EXnumber_of.m EXnumber_of.hx
 have g13:Kn l.prog w K mg base 1 "_law_pen" ["_law_script", "_law_first"] (spF K [0,0] 1 bV):=d13.kn X G (fun _ _ _ _ _ _ us hl=>by obtain ⟨a0,a1,rfl⟩:=dS hl; rfl) fun _ F=>pB (k:=0) T    F
 have g14:Kn l.prog w K mg base 1 "_law_mixed" ["_law_cell", "_law_k"] (spF K [0,0] 3 bK):=d14.kn X G (fun _ _ _ _ _ _ us hl=>by obtain ⟨a0,a1,rfl⟩:=dS hl; rfl) fun _ F=>mV (k:=0) T    F
 have g15:Kn l.prog w K mg base 2 "_law_take" ["_law_pen_here", "_law_most"] (spF K [1,0] 0 aw):=d15.kn X G (fun _ _ _ _ _ _ us hl=>by obtain ⟨a0,a1,rfl⟩:=dS hl; rfl) fun _ F=>nR (k:=1) T  (g14.mono (by decide))  F
 have g16:Kn l.prog w K mg base 3 "_law_signs" ["_law_pen_here"] (spF K [1] 0 cx):=d16.kn X G (fun _ _ _ _ _ _ us hl=>by obtain ⟨a0,rfl⟩:=pH hl; rfl) fun _ F=>mU (k:=2) T  (g15.mono (by decide))  F
 have g17:Kn l.prog w K mg base 3 "_law_goal" ["_law_pen_here", "_law_stand", "_law_stands", "_law_way"] (spF K [1,0,0,0] 0 bi):=d17.kn X G (fun _ _ _ _ _ _ us hl=>by obtain ⟨a0,a1,a2,a3,rfl⟩:=Ee hl; rfl) fun _ F=>nW (k:=2) T  (g15.mono (by decide))  F
 have g18:Kn l.prog w K mg base 4 "_law_machine" ["_law_pen_here", "_law_signs_here", "_law_most"] (spF K [1,0,0] 0 bP):=d18.kn X G (fun _ _ _ _ _ _ us hl=>by obtain ⟨a0,a1,a2,rfl⟩:=gJ hl; rfl) fun _ F=>kU (k:=3) T  (g15.mono (by decide)) (g17.mono (by decide))  F
 have g19:Kn l.prog w K mg base 3 "_law_tongue" ["_law_pen_here", "_law_many"] (spF K [1,0] 0 b9):=d19.kn X G (fun _ _ _ _ _ _ us hl=>by obtain ⟨a0,a1,rfl⟩:=dS hl; rfl) fun _ F=>mh (k:=2) T  (g15.mono (by decide))  F
 have g20:Kn l.prog w K mg base 1 "_law_rows" ["_law_signs_here", "_law_most"] (spF K [0,0] 0 cQ):=d20.kn X G (fun _ _ _ _ _ _ us hl=>by obtain ⟨a0,a1,rfl⟩:=dS hl; rfl) fun _ F=>nS (k:=0) T    F
 have g21:Kn l.prog w K mg base 1 "_law_gone" ["_law_machine_here", "_law_stand", "_law_row"] (spF K [0,0,0] 0 cS):=d21.kn X G (fun _ _ _ _ _ _ us hl=>by obtain ⟨a0,a1,a2,rfl⟩:=gJ hl; rfl) fun _ F=>nV (k:=0) T    F
 have g22:Kn l.prog w K mg base 2 "_law_lets" ["_law_machine_here", "_law_row"] (spF K [0,0] 0 cR):=d22.kn X G (fun _ _ _ _ _ _ us hl=>by obtain ⟨a0,a1,rfl⟩:=dS hl; rfl) fun _ F=>nU (k:=1) T  (g21.mono (by decide))  F
 have g23:Kn l.prog w K mg base 5 "_law_told" ["_law_tongue_here", "_law_machine_here", "_law_word"] (spF K [0,0,0] 0 cP):=d23.kn X G (fun _ _ _ _ _ _ us hl=>by obtain ⟨a0,a1,a2,rfl⟩:=gJ hl; rfl) fun _ F=>nQ (k:=4) T  (g12.mono (by decide)) (g12X.mono (by decide)) EXnumber_of F
 exact (FQ (k:=5) T  (g13.mono (by decide)) (g16.mono (by decide)) (g18.mono (by decide)) (g19.mono (by decide)) (g20.mono (by decide)) (g23.mono (by decide)) (g22.mono (by decide))  FL).imp fun vs H Q E h=>Eh sQ h
theorem walk {l:PySem.W.OpenLaw} {q:Program} {loose:List Str} {XP:(Str→Option Value)→Heap→Prop} {YP:World→Heap→Prop} {d:DefRec} {K:Params→PySem.W.Frag} (hn:l.most=some 63) (hdf:d.params.defaults=[]) (hq:PyProof.Rows.importsNone q=true)
  (hY:∀ (w:World) (h:Heap),YP w h→(K w.params).In h)
  (F:∀ (w:World) (mg:Str→Option Value) (fa:Addr) (h:Heap),(K w.params).In h→h.Ns mainGlobals mg→mg d.name=some (.ref fa) →
   ∃ fd:FuncData,(∀ (s:Shared) (u:Value),BindsTo s fd ⟨[u],[]⟩ [("_law_script",u)])∧∀ base:Heap,(K w.params).In base→base.Ns mainGlobals mg→FnOk l.prog w (K w.params) mg base CX0 6 fa fd ["_law_script"] (j6 (K w.params))) :
  PySem.W.WalkO q loose XP YP l.row.toRowW d [] (fun f vs=>PySem.call f vs) :=
 L2.walk_of (n:=63) (k:=6) (x:="_law_script") (CX:=fun _=>CX0) (sp:=fun w=>j6 (K w.params)) hn (by decide) hdf ⟨rfl,by decide,by decide,rfl⟩ hq hY F (fun _ _ a ns hl hO hS=>⟨a,ns,rfl,hS,hO,hl,fun _=>rfl⟩) fun _ _ _ _ _ z=>z
end W29
open PySem PySem.W PyProof.Rows
set_option maxRecDepth 100000 in
set_option maxHeartbeats 0 in
theorem PySem.Challenge.cw_wordrules_k29_numbers_of_words_holds : PySem.Challenge.rw_wordrules_k29_numbers_of_words.Holds := by
 w_on; o_law; k_head; (case hw=>w_witness2)
 k_fill
 refine W29.walk (l:=PySem.Challenge.rw_wordrules_k29_numbers_of_words) rfl rfl rfl (fun w h Y=>PySem.W.kIn_of Y) ?F
 case F =>
  intro w mg fa h KX G hmg
  refine' W29.all_mk KX G hmg (.mk' ?_ ?_ ?_ ?_) (.mk' ?_ ?_ ?_ ?_) (.mk' ?_ ?_ ?_ ?_) (.mk' ?_ ?_ ?_ ?_) (.mk' ?_ ?_ ?_ ?_) (.mk' ?_ ?_ ?_ ?_) (.mk' ?_ ?_ ?_ ?_) (.mk' ?_ ?_ ?_ ?_) (.mk' ?_ ?_ ?_ ?_) (.mk' ?_ ?_ ?_ ?_) (.mk' ?_ ?_ ?_ ?_) (.mk' ?_ ?_ ?_ ?_) (.mk' ?_ ?_ ?_ ?_) (.mk' ?_ ?_ ?_ ?_) (.mk' ?_ ?_ ?_ ?_) (.mk' ?_ ?_ ?_ ?_) (.mk' ?_ ?_ ?_ ?_) (.mk' ?_ ?_ ?_ ?_) (.mk' ?_ ?_ ?_ ?_) (.mk' ?_ ?_ ?_ ?_) (.mk' ?_ ?_ ?_ ?_) (.mk' ?_ ?_ ?_ ?_) (.mk' ?_ ?_ ?_ ?_) (.mk' ?_ ?_ ?_ ?_) (.mk' ?_ ?_ ?_ ?_) ?_ ?_ ?_ ?_ ?_ ?_ ?_ ?_ ?_ ?_ ?_ ?_ ?_ ?_ ?_ ?_ ?_ ?_ ?_ ?_
  all_goals (try k_is)
  all_goals (first | rfl | kernel_rfl)
