import PyProof.Rows.All
import Wide.All
import OpenK.AllK
import Wide.FinOn
import Lean
import PyProof.EqAt
import PyProof.EqKinds
import PyProof.TupleCall
import PyProof.NeKinds
import PyProof.ConsumeWalk
import PyProof.ZipIter
import PyProof.EnumMake
import PyProof.EnumFor
import PyProof.StrWalks
import PyProof.ListStr
import PyProof.SliceStr2
import PyProof.StrBlockI
import PyProof.Rows.StrWeight2
import PyProof.Rows.ZipGen
import PyProof.Rows.StrIndexOr
import PyProof.Draws
import PyProof.RaisesStr
import PyProof.Rows.StrCountLaw
import PyProof.SumWalk
import PyProof.ReprRoads
import PyProof.ReprLen
import PyProof.CallFns
import PyProof.SumAny
import PyProof.SumAnyB
import PySem.Challenge.RW_wordrules_k01_tongues_of_anything
set_option Elab.async false
set_option linter.all false
set_option maxRecDepth 100000
namespace L2
open PySem PySem.Spec PyProof.Rows
abbrev Key:=Sum Int Str
def fL:Key→Value→Bool
 | .inl k,v=>Value.isInt k v
 | .inr x,v=>Value.isStrOf x v
def C5 (w:World):Key→Int
 | .inl k=>hashInt k
 | .inr x=>hashStr w x
theorem bd:∀ {k:Key} {v:Value},fL k v=true→(∃ i t,k=Sum.inl i∧v=Value.int i t)∨(∃ x t,k=Sum.inr x∧v=Value.str x t)
 | .inl i,v,h=>by
  obtain ⟨t,e⟩:=Value.isInt_shape (k:=i) (v:=v) h
  exact .inl ⟨i,t,rfl,e⟩
 | .inr x,v,h=>by
  obtain ⟨t,e⟩:=Value.isStrOf_shape (x:=x) (v:=v) h
  exact .inr ⟨x,t,rfl,e⟩
theorem nZ (i:Int) (t:Tok):fL (.inl i) (.int i t)=true:=by simp [fL,Value.isInt]
theorem nY (x:Str) (t:Tok):fL (.inr x) (.str x t)=true:=by simp [fL,Value.isStrOf]
theorem nX (a b:Int):decide ((Sum.inl a:Key)=Sum.inl b)=(a == b):=by
 by_cases e:a=b
 ·subst e; simp
 ·have h:¬ (Sum.inl a:Key)=Sum.inl b:=fun q=>e (Sum.inl.inj q)
  rw [decide_eq_false h]
  exact (beq_eq_false_iff_ne.mpr e).symm
theorem nU (a b:Str):decide ((Sum.inr a:Key)=Sum.inr b)=decide (a=b):=by
 by_cases e:a=b
 ·subst e; simp
 ·have h:¬ (Sum.inr a:Key)=Sum.inr b:=fun q=>e (Sum.inr.inj q)
  rw [decide_eq_false h,decide_eq_false e]
theorem nW (a:Int) (b:Str):decide ((Sum.inl a:Key)=Sum.inr b)=false:=decide_eq_false (fun q=>nomatch q)
theorem nV (a:Str) (b:Int):decide ((Sum.inr a:Key)=Sum.inl b)=false:=decide_eq_false (fun q=>nomatch q)
def bm (prog:Program) (w:World):PySem.KeyKind prog w Key where
 is:=fL
 hash:=C5 w
 inj:=fun v a b ha hb=>by
  rcases bd ha with ⟨i,t,rfl,rfl⟩ | ⟨x,t,rfl,rfl⟩
  ·rcases bd hb with ⟨j,u,rfl,e⟩ | ⟨y,u,rfl,e⟩
   ·injection e with e1 _; rw [e1]
   ·exact nomatch e
  ·rcases bd hb with ⟨j,u,rfl,e⟩ | ⟨y,u,rfl,e⟩
   ·exact nomatch e
   ·injection e with e1 _; rw [e1]
 byValue:=fun k v h=>by
  rcases bd h with ⟨i,t,rfl,rfl⟩ | ⟨x,t,rfl,rfl⟩ <;> rfl
 pyHash:=fun hv h=>by
  rcases bd hv with ⟨i,t,rfl,rfl⟩ | ⟨x,t,rfl,rfl⟩
  ·exact wpAny_pyHash_int h
  ·exact wpAny_pyHash_str h
 eqBool:=fun hu hv h=>by
  rcases bd hu with ⟨i,t,rfl,rfl⟩ | ⟨x,t,rfl,rfl⟩
  ·rcases bd hv with ⟨j,u,rfl,rfl⟩ | ⟨y,u,rfl,rfl⟩
   ·rw [nX] at h; exact wpAny_eqBool_int h
   ·rw [nW] at h; exact SeqAt.EqAt.int_str i t y u _ _ _ _ h
  ·rcases bd hv with ⟨j,u,rfl,rfl⟩ | ⟨y,u,rfl,rfl⟩
   ·rw [nV] at h; exact SeqAt.EqAt.str_int x t j u _ _ _ _ h
   ·rw [nU] at h; exact wpAny_eqBool_str h
 «strs»:=fun k x t v h=>by
  rcases bd h with ⟨i,u,rfl,e⟩ | ⟨y,u,rfl,e⟩
  ·exact nomatch e
  ·injection e with e1 _
   subst e1
   cases v <;> rfl
theorem lC (prog:Program) (w:World) (i:Int) (t:Tok):(bm prog w).is (.inl i) (.int i t)=true:=nZ i t
theorem lB (prog:Program) (w:World) (x:Str) (t:Tok):(bm prog w).is (.inr x) (.str x t)=true:=nY x t
end L2
namespace L2
open PySem PySem.Spec PyProof.Rows
inductive V where
 | non | bl (b:Bool) | int (i:Int) | str (x:Str) | byt (b:Array UInt8) | flt (b:UInt64) | ref (a:Addr) | ty (n:String)
 deriving DecidableEq
def RelV:V→Value→Prop
 | .non,u=>u=Value.none
 | .bl b,u=>u=Value.bool b
 | .int i,u=>∃ t,u=Value.int i t
 | .str x,u=>∃ t,u=Value.str x t
 | .byt b,u=>∃ t,u=Value.bytes b t
 | .flt b,u=>∃ t,u=Value.float b t
 | .ref a,u=>u=Value.ref a
 | .ty n,u=>u=Value.type n
abbrev Vals:List V→List Value→Prop:=Paired RelV
theorem Vals.length {xs:List V} {us:List Value} (r:Vals xs us):xs.length=us.length:=Paired.length r
theorem Vals.get:∀ {xs:List V} {us:List Value} {i:Nat} {x:V},Vals xs us→xs[i]?=some x→∃ u,us[i]?=some u∧RelV x u
 | _,_,_,_,.nil,e=>by simp at e
 | _,_,0,_,.cons r _,e=>by simp at e; subst e; exact ⟨_,rfl,r⟩
 | _,_,i+1,x,.cons _ t,e=>by
  obtain ⟨u,h1,h2⟩:=Vals.get (i:=i) (x:=x) t (by simpa using e)
  exact ⟨u,by simpa using h1,h2⟩
theorem Vals.set {x:V} {u:Value} (r:RelV x u):∀ {xs:List V} {us:List Value} (i:Nat),Vals xs us→Vals (xs.set i x) (us.set i u)
 | _,_,_,.nil=>.nil
 | _,_,0,.cons _ t=>.cons r t
 | _,_,i+1,.cons q t=>.cons q (Vals.set r i t)
theorem Vals.append:∀ {xs ys:List V} {us ws:List Value},Vals xs us→Vals ys ws→Vals (xs++ys) (us++ws)
 | _,_,_,_,.nil,s=>s
 | _,_,_,_,.cons r t,s=>.cons r (Vals.append t s)
theorem Vals.take:∀ {xs:List V} {us:List Value} (n:Nat),Vals xs us→Vals (xs.take n) (us.take n)
 | _,_,0,_=>.nil
 | _,_,_+1,.nil=>.nil
 | _,_,n+1,.cons r t=>.cons r (Vals.take n t)
theorem Vals.drop:∀ {xs:List V} {us:List Value} (n:Nat),Vals xs us→Vals (xs.drop n) (us.drop n)
 | _,_,0,r=>r
 | _,_,_+1,.nil=>.nil
 | _,_,n+1,.cons _ t=>Vals.drop n t
def RelO:Option V→Option Value→Prop
 | some v,some u=>RelV v u
 | none,none=>True
 | _,_=>False
def KV {κ:Type}:List (κ × V)→List (κ × Value)→Prop:=Paired fun (p:κ × V) (q:κ × Value)=>p.1=q.1∧RelV p.2 q.2
def kV:Key→V
 | .inl i=>.int i
 | .inr x=>.str x
inductive HO where
 | lst (xs:List V)
 | tup (xs:List V)
 | dK (kvs:List (Key × V)) | dT (kvs:List (List Key × V))
 | set (S:Int→Bool) (n:Nat)
 | ins (C dx:Addr) (fs:List (Str × V))
 | own (x:Addr)
 | xd (fs:List (Str × V))
 | met (f x:Addr)
 | rng (lo hi:Int)
 | frz (o:Obj) (u:HO)
 | tbl (ps:Array Value)
 | ext (φ:Heap→Prop)
abbrev Hp:=Addr→Option HO
def upd (H:Hp) (a:Addr) (o:HO):Hp:=fun b=>if b=a then some o else H b
theorem aG {H:Hp} {a:Addr} {o:HO}:upd H a o a=some o:=by unfold upd; rw [if_pos rfl]
theorem aP {H:Hp} {a b:Addr} {o:HO} (h:b≠a):upd H a o b=H b:=by unfold upd; rw [if_neg h]
theorem wm {H:Hp} {a b:Addr} {o u:HO} (h:H a=some o) (h':H b=some u) (d:o≠u):a≠b:=by
 intro e; subst e; rw [h] at h'; exact d (Option.some.inj h')
theorem cQ {H:Hp} {a b:Addr} {o:HO} (h:H a=some o) (h':H b=none):a≠b:=by
 intro e; subst e; rw [h] at h'; cases h'
def IsTupN (h:Heap) (a:Addr) (its:Array Value):Prop:=∃ o,h.get? a=some o∧o.cls=.type "tuple"∧∃ n,o.data=.seq its n∧o.dict=none
theorem IsTupN.tup {h:Heap} {a:Addr} {its:Array Value} (x:IsTupN h a its):IsTup h a its:=by
 obtain ⟨o,h1,h2,n,h3,_⟩:=x
 exact ⟨o,h1,h2,n,h3⟩
theorem IsTupN.lt {h:Heap} {a:Addr} {its:Array Value} (x:IsTupN h a its):a < h.objs.size:=Heap.lt_size x.choose_spec.1
theorem IsTupN.new (h:Heap) (its:Array Value):IsTupN (h.push { cls:=.type "tuple",data:=.seq its }) h.objs.size its:=⟨_,Heap.get?_push_size _ rfl,rfl,_,rfl,rfl⟩
section
variable (P:Program) (w:World)
def ObjOk (H:Hp) (h:Heap) (a:Addr):HO→Prop
 | .lst xs=>xs.length≤sizeLine∧∃ (its:List Value) (n:Nat),Vals xs its∧h.get? a=some { cls:=.type "list",data:=.seq its.toArray n }
 | .tup xs=>xs.length≤sizeLine∧∃ its:List Value,Vals xs its∧IsTupN h a its.toArray
 | .dK kvs=>kvs.length≤sizeLine∧(a == sysModules)=false∧∃ vs,KV kvs vs∧h.DictOf (bm P w) a vs
 | .dT kvs=>kvs.length≤sizeLine∧(a == sysModules)=false∧∃ xs:List (List Key × Addr × Value),
   Paired (fun (p:List Key × V) (q:List Key × Addr × Value)=>p.1=q.1∧H q.2.1=some (.tup (p.1.map kV))∧RelV p.2 q.2.2) kvs xs ∧
   ∃ o es ep,h.get? a=some o∧o.ExactDict∧o.data=.dict es ep∧es.toList=xs.map (entryOfKey (tupleKind (bm P w)))∧(xs.map (·.1)).Nodup
 | .set S n=>h.SetOf (intKind P w) a S n
 | .ins C dx fs=>H dx=some (.own a)∧fs.length≤1000∧dx≠a∧h.get? a=some (PySem.W.instObj C dx) ∧
   ∃ mA,h.Ns1 dx mA∧(∀ f,RelO (fs.lookup f) (mA f))∧PySem.Within mA (fs.map (·.1))
 | .own _=>∃ o,h.get? a=some o
 | .xd fs=>∃ mA,h.Ns1 a mA∧∀ f,RelO (fs.lookup f) (mA f)
 | .rng lo hi=>∃ t u v,h.get? a=some { cls:=.type "range",data:=.fields #[.int lo t,.int hi u,.int 1 v] }
 | .frz o u=>h.get? a=some o∧ObjOk H h a u
 | .tbl ps=>h.get? a=some { cls:=.none,data:=.fields ps }
 | .met f x=>h.get? a=some (PySem.W.methodObj (.ref f) (.ref x))
 | .ext φ=>φ h∧(∃ o,h.get? a=some o)∧∀ h1 h2:Heap,φ h1→(∀ o,h1.get? a=some o→h2.get? a=some o)→φ h2
def HOk (H:Hp) (h:Heap):Prop:=∀ a o,H a=some o→ObjOk P w H h a o
end
section
variable {P:Program} {w:World} {H H':Hp} {h h':Heap} {a:Addr} {o:HO}
theorem ObjOk.lt (x:ObjOk P w H h a o):a < h.objs.size:=by
 cases o with
 | lst xs=>obtain ⟨_,_,_,_,e⟩:=x; exact Heap.lt_size e
 | tup xs=>obtain ⟨_,_,_,p⟩:=x; exact p.lt
 | dK kvs=>obtain ⟨_,_,_,_,o,_,_,e,_⟩:=x; exact Heap.lt_size e
 | dT kvs=>obtain ⟨_,_,_,_,o,_,_,e,_⟩:=x; exact Heap.lt_size e
 | set S n=>obtain ⟨o,_,_,_,e,_⟩:=x; exact Heap.lt_size e
 | ins C dx fs=>obtain ⟨_,_,_,e,_⟩:=x; exact Heap.lt_size e
 | own y=>obtain ⟨_,e⟩:=x; exact Heap.lt_size e
 | xd fs=>obtain ⟨_,⟨_,_,_,e,_⟩,_⟩:=x; exact Heap.lt_size e
 | rng lo hi=>obtain ⟨_,_,_,e⟩:=x; exact Heap.lt_size e
 | frz ob u=>obtain ⟨e,_⟩:=x; exact Heap.lt_size e
 | tbl ps=>exact Heap.lt_size (show h.get? a=some _ from x)
 | met f y=>exact Heap.lt_size (show h.get? a=some _ from x)
 | ext φ=>obtain ⟨_,⟨_,e⟩,_⟩:=x; exact Heap.lt_size e
theorem Paired.mapP {α β:Type} {F G:α→β→Prop}:∀ {l₁:List α} {l₂:List β},Paired F l₁ l₂→(∀ a b,F a b→G a b)→Paired G l₁ l₂
 | _,_,.nil,_=>.nil
 | _,_,.cons r t,f=>.cons (f _ _ r) (Paired.mapP t f)
theorem ObjOk.stay (x:ObjOk P w H h a o) (k:∀ b u,(b=a∨H b=some (.own a))→h.get? b=some u→h'.get? b=some u)
  (ho:∀ b,H b=some (.own a)→H' b=some (.own a)) (ht:∀ b xs,H b=some (.tup xs)→H' b=some (.tup xs)):ObjOk P w H' h' a o:=by
 induction o with
 | lst xs=>obtain ⟨z,its,n,r,e⟩:=x; exact ⟨z,its,n,r,k _ _ (.inl rfl) e⟩
 | tup xs=>obtain ⟨z,its,r,ob,e,c⟩:=x; exact ⟨z,its,r,ob,k _ _ (.inl rfl) e,c⟩
 | dK kvs=>obtain ⟨z,y,vs,r,ob,es,ep,e,c⟩:=x; exact ⟨z,y,vs,r,ob,es,ep,k _ _ (.inl rfl) e,c⟩
 | dT kvs =>
  obtain ⟨z,y,xs,r,ob,es,ep,e,c⟩:=x
  exact ⟨z,y,xs,Paired.mapP r fun p q z=>⟨z.1,ht _ _ z.2.1,z.2.2⟩,ob,es,ep,k _ _ (.inl rfl) e,c⟩
 | set S n=>obtain ⟨ob,es,ep,t,e,c⟩:=x; exact ⟨ob,es,ep,t,k _ _ (.inl rfl) e,c⟩
 | ins C dx fs =>
  obtain ⟨d,z,ne,e,mA,⟨od,es,ep,e2,c⟩,r⟩:=x
  exact ⟨ho _ d,z,ne,k _ _ (.inl rfl) e,mA,⟨od,es,ep,k _ _ (.inr d) e2,c⟩,r⟩
 | own y=>obtain ⟨ob,e⟩:=x; exact ⟨ob,k _ _ (.inl rfl) e⟩
 | xd fs=>obtain ⟨mA,⟨od,es,ep,e,c⟩,r⟩:=x; exact ⟨mA,⟨od,es,ep,k _ _ (.inl rfl) e,c⟩,r⟩
 | rng lo hi=>obtain ⟨t,u,v,e⟩:=x; exact ⟨t,u,v,k _ _ (.inl rfl) e⟩
 | frz ob u ih=>obtain ⟨e,q⟩:=x; exact ⟨k _ _ (.inl rfl) e,ih q⟩
 | tbl ps =>
  have e:h.get? a=some { cls:=.none,data:=.fields ps }:=x
  show h'.get? a=some { cls:=.none,data:=.fields ps }
  exact k a _ (.inl rfl) e
 | met f y =>
  have e:h.get? a=some (PySem.W.methodObj (.ref f) (.ref y)):=x
  show h'.get? a=some (PySem.W.methodObj (.ref f) (.ref y))
  exact k a _ (.inl rfl) e
 | ext φ=>obtain ⟨p,⟨o,e⟩,st⟩:=x; exact ⟨st _ _ p fun o q=>k _ _ (.inl rfl) q,⟨o,k _ _ (.inl rfl) e⟩,st⟩
theorem HOk.lt (x:HOk P w H h) (e:H a=some o):a < h.objs.size:=(x a o e).lt
theorem HOk.fresh (x:HOk P w H h) (e:h.objs.size≤a):H a=none:=by
 cases q:H a with
 | none=>rfl
 | some u=>exact absurd (Nat.lt_of_lt_of_le (x.lt q) e) (Nat.lt_irrefl _)
theorem HOk.kept (x:HOk P w H h) (k:∀ b u,h.get? b=some u→h'.get? b=some u):HOk P w H h':=fun a o e =>
 (x a o e).stay (fun b u _ q=>k b u q) (fun _ q=>q) fun _ _ q=>q
theorem HOk.laid (x:HOk P w H h) (k:∀ b u,h.get? b=some u→h'.get? b=some u) (hp:h.objs.size≤a) (new:ObjOk P w (upd H a o) h' a o):HOk P w (upd H a o) h':=fun b u e=>by
 have hn:=x.fresh hp
 by_cases hb:b=a
 ·subst hb; rw [aG] at e; cases e; exact new
 ·rw [aP hb] at e
  exact (x b u e).stay (fun c v _ q=>k c v q) (fun c q=>by rw [aP (cQ q hn)]; exact q) fun c xs q=>by rw [aP (cQ q hn)]; exact q
end
def Rd (H:Hp) (a:Addr) (u:HO):Prop:=H a=some u∨∃ o,H a=some (.frz o u)
theorem Rd.ok {P:Program} {w:World} {H:Hp} {h:Heap} {a:Addr} {u:HO} (r:Rd H a u) (x:HOk P w H h):ObjOk P w H h a u:=by
 rcases r with r | ⟨o,r⟩
 ·exact x a u r
 ·obtain ⟨_,q⟩:=x a _ r
  exact q
def Mut:Option HO→Prop
 | some (.lst _)=>True
 | some (.dK _)=>True
 | some (.dT _)=>True
 | some (.set _ _)=>True
 | some (.ins _ _ _)=>True
 | some (.ext _)=>True
 | _=>False
section
variable {P:Program} {w:World} {H:Hp} {h h':Heap} {x e:Addr} {o':HO}
theorem HOk.write (ok:HOk P w H h) (mu:Mut (H x)) (he:e=x∨H e=some (.own x)) (k:∀ b u,b≠e→h.get? b=some u→h'.get? b=some u) (heo:∃ u,h'.get? e=some u)
  (new:ObjOk P w (upd H x o') h' x o'):HOk P w (upd H x o') h':=fun b u q=>by
 have nown:∀ c y,H c=some (.own y)→c≠x:=fun c y r z=>by subst z; rw [r] at mu; exact mu
 have ntup:∀ c xs,H c=some (.tup xs)→c≠x:=fun c xs r z=>by subst z; rw [r] at mu; exact mu
 by_cases hb:b=x
 ·subst hb; rw [aG] at q; cases q; exact new
 ·rw [aP hb] at q
  by_cases hbe:b=e
  ·have q':H b=some (.own x):=by
    rcases he with z | z
    ·exact absurd (hbe.trans z) hb
    ·rw [hbe]; exact z
   rw [q] at q'; cases q'
   obtain ⟨v,hv⟩:=heo
   exact ⟨v,by rw [hbe]; exact hv⟩
  ·refine (ok b u q).stay (fun c v hc r=>k c v ?_ r) (fun c r=>by rw [aP (nown c b r)]; exact r) fun c xs r=>by rw [aP (ntup c xs r)]; exact r
   rcases hc with rfl | hc
   ·exact hbe
   ·rintro rfl
    rcases he with z | z
    ·exact nown c b hc z
    ·rw [hc] at z; cases z; exact hb rfl
end
structure Un (fs ex:List Addr) (H H':Hp) (h h':Heap):Prop where
 keep:∀ b o,h.get? b=some o→H b=none→b ∉ fs→b ∉ ex→h'.get? b=some o
 slot:∀ b o,h.get? b=some o→H b=none→b∈fs→b ∉ ex→∃ sl,h'.get? b=some { o with slots:=sl }
 free:∀ b o,h.get? b=some o→H b=none→b ∉ ex→H' b=none
 there:∀ b o,h.get? b=some o→b ∉ ex→∃ o',h'.get? b=some o'
 tups:∀ b xs,H b=some (.tup xs)→H' b=some (.tup xs)
 frzs:∀ b o u,H b=some (.frz o u)→H' b=some (.frz o u)
 tbls:∀ b ps,H b=some (.tbl ps)→∃ more,H' b=some (.tbl (ps++more))
section
variable {fs fs' ex ex':List Addr} {H H1 H2:Hp} {h h1 h2 h':Heap} {a x e:Addr} {o:HO}
theorem Un.any (u:Un fs ex H H1 h h1) {b:Addr} {ob:Obj} (q:h.get? b=some ob) (n:H b=none) (hx:b ∉ ex):∃ sl,h1.get? b=some { ob with slots:=sl }:=by
 by_cases hb:b∈fs
 ·exact u.slot b ob q n hb hx
 ·exact ⟨ob.slots,u.keep b ob q n hb hx⟩
theorem Un.trans (a:Un fs ex H H1 h h1) (b:Un fs ex H1 H2 h1 h2):Un fs ex H H2 h h2 where
 keep:=fun c ob q n hc hx=>b.keep c ob (a.keep c ob q n hc hx) (a.free c ob q n hx) hc hx
 slot:=fun c ob q n hc hx=>by
  obtain ⟨sl,e1⟩:=a.slot c ob q n hc hx
  obtain ⟨sl',e2⟩:=b.slot c _ e1 (a.free c ob q n hx) hc hx
  exact ⟨sl',e2⟩
 free:=fun c ob q n hx=>by
  obtain ⟨o',e1⟩:=a.there c ob q hx
  exact b.free c o' e1 (a.free c ob q n hx) hx
 there:=fun c ob q hx=>by
  obtain ⟨o',e1⟩:=a.there c ob q hx
  exact b.there c o' e1 hx
 tups:=fun c xs q=>b.tups c xs (a.tups c xs q)
 frzs:=fun c ob xs q=>b.frzs c ob xs (a.frzs c ob xs q)
 tbls:=fun c ps q=>by
  obtain ⟨m1,e1⟩:=a.tbls c ps q
  obtain ⟨m2,e2⟩:=b.tbls c _ e1
  exact ⟨m1++m2,by rw [e2,Array.append_assoc]⟩
theorem Un.kept (k:∀ b u,h.get? b=some u→h'.get? b=some u):Un fs ex H H h h' :=
 ⟨fun b ob q _ _ _=>k b ob q,fun b ob q _ _ _=>⟨ob.slots,k b ob q⟩,fun _ _ _ n _=>n,fun b ob q _=>⟨ob,k b ob q⟩,fun _ _ q=>q,fun _ _ _ q=>q,fun _ ps q=>⟨#[],by rw [q]; simp⟩⟩
theorem Un.refl:Un fs ex H H h h:=Un.kept fun _ _ q=>q
theorem Un.laid (k:∀ b u,h.get? b=some u→h'.get? b=some u) (hp:h.objs.size≤a) (hn:H a=none):Un fs ex H (upd H a o) h h' where
 keep:=fun b u q _ _ _=>k b u q
 slot:=fun b u q _ _ _=>⟨u.slots,k b u q⟩
 free:=fun b u q n _=>by rw [aP (Nat.ne_of_lt (Nat.lt_of_lt_of_le (Heap.lt_size q) hp))]; exact n
 there:=fun b u q _=>⟨u,k b u q⟩
 tups:=fun b xs q=>by rw [aP (cQ q hn)]; exact q
 frzs:=fun b u xs q=>by rw [aP (cQ q hn)]; exact q
 tbls:=fun b ps q=>⟨#[],by rw [aP (cQ q hn),q]; simp⟩
theorem Un.write (mu:Mut (H x)) (he:e=x∨H e=some (.own x)) (k:∀ b u,b≠e→h.get? b=some u→h'.get? b=some u) (heo:∃ u,h'.get? e=some u):Un fs ex H (upd H x o) h h':=by
 have hx:∀ b,H b=none→b≠x:=fun b n z=>by subst z; rw [n] at mu; exact mu
 have hb:∀ b,H b=none→b≠e:=fun b n z=>by
  subst z
  rcases he with r | r
  ·exact hx b n r
  ·rw [n] at r; cases r
 have hm:∀ b u,H b=some u→¬ Mut (some u)→b≠x:=fun b u q nm z=>by subst z; rw [q] at mu; exact nm mu
 refine ⟨fun b u q n _ _=>k b u (hb b n) q,fun b u q n _ _=>⟨u.slots,k b u (hb b n) q⟩,fun b u q n _=>by rw [aP (hx b n)]; exact n,fun b u q _=>?_,
  fun b xs q=>by rw [aP (hm b _ q fun z=>z)]; exact q,fun b u xs q=>by rw [aP (hm b _ q fun z=>z)]; exact q,fun b ps q=>⟨#[],by rw [aP (hm b _ q fun z=>z),q]; simp⟩⟩
 by_cases hbe:b=e
 ·subst hbe; exact heo
 ·exact ⟨u,k b u hbe q⟩
end
def trk (h:Heap) (H:Hp):List Addr:=(List.range h.objs.size).filter fun a=>(H a).isSome
def fM (h:Heap) (H:Hp):Heap:=PySem.W.hideAll h (trk h H)
theorem oi (h:Heap) (H:Hp):(fM h H).objs.size=h.objs.size:=PySem.W.hideAll_size _ _
theorem pU {h:Heap} {H:Hp} {b:Addr} {o:Obj} (e:h.get? b=some o) (n:H b=none):(fM h H).get? b=some o :=
 PySem.W.hideAll_get _ e fun hm=>by
  have q:(H b).isSome=true:=(List.mem_filter.mp hm).2
  rw [n] at q; simp at q
theorem wY {h:Heap} {H:Hp} {b:Addr} {o:Obj} (e:(fM h H).get? b=some o):h.get? b=some o∧H b=none:=by
 have e':h.get? b=some o:=PySem.W.of_hideAll (trk h H) e
 refine ⟨e',?_⟩
 cases q:H b with
 | none=>rfl
 | some x =>
  have hm:b∈trk h H:=List.mem_filter.mpr ⟨List.mem_range.mpr (Heap.lt_size e'),by simp [q]⟩
  have z:(fM h H).get? b=none:=PySem.W.hideAll_none (trk h H) hm
  rw [z] at e; cases e
def yb (g h:Heap) (L:Addr):List (Addr × Obj):=(List.range h.objs.size).filterMap fun a=>if a=L∨(g.get? a).isSome=true then none else (h.get? a).map fun o=>(a,o)
def rest (g h:Heap) (L d:Addr):List (Addr × Obj):=(yb g h L).filter fun p=>decide (p.1≠d)
end L2
namespace L2
open PySem PySem.Spec PyProof.Rows
structure Mod (K:PySem.W.Frag) (mg:Str→Option Value) (base:Heap):Prop where
 kin:K.In base
 glob:base.Ns mainGlobals mg
 blt:∃ mb,base.Ns builtinsNs mb∧∀ x:Str,x≠"__name__"→mb x=bootBuiltins x
 nolimit:base.NoLimit
 mods:∃ mm,base.Ns sysModules mm
structure Cx where
 prog:Program
 w:World
 K:PySem.W.Frag
 mg:Str→Option Value
 base:Heap
 A:Around
 N:List Str
 s₀:Shared
 H₀:Hp
 env:Env
 outer:List Env
 stack:List Env
 ex:List Addr
 fn:Str→Bool
 calm:Bool
 pn:List (Addr × Obj)
 xe:Value→Shared→Prop
def frs (l:List Env):List Addr:=l.filterMap (·.frame)
abbrev Cx.fs (X:Cx):List Addr:=frs X.outer
def Vis (sc:Scope) (x:Str):Prop:=sc.names.lookup x=some .local∨sc.names.lookup x=some .cell∨sc.names.lookup x=some .free
def Loc (sc:Scope) (x:Str):Prop:=sc.names.lookup x=some .local∨sc.names.lookup x=some .cell
def Dl (env:Env) (h:Heap) (m:Str→Option Value) (x:Str) (u:Value):Prop :=
 (env.kindOf x=some .local∧m x=some u)∨((env.kindOf x=some .cell∨env.kindOf x=some .free)∧∃ c,env.cells.lookup x=some c∧h.IsCell c (some u))
structure Cx.Ok (X:Cx):Prop where
 mod:Mod X.K X.mg X.base
 kind:X.env.scope.kind=.function
 glob:X.env.globals=mainGlobals
 blt:X.env.builtins=builtinsNs
 above:X.s₀.heap.objs.size≤X.env.locals
 inj:∀ x y c,X.env.cells.lookup x=some c→X.env.cells.lookup y=some c→x=y
 has:∀ x,(X.env.kindOf x=some .cell∨X.env.kindOf x=some .free)→∃ c,X.env.cells.lookup x=some c
 cab:∀ x c,X.fn x=true→X.env.cells.lookup x=some c→X.s₀.heap.objs.size≤c
 hd:X.calm=true→X.A.handled=none
 frames:X.A.frames=some X.stack
 stk:X.stack=X.outer∨(X.stack=X.env :: X.outer∧X.env.frame=some X.env.locals)
 exf:∀ b∈X.ex,b≠X.env.locals∧∀ x c,X.env.cells.lookup x=some c→c≠b
 bs:∀ b o,X.base.get? b=some o→X.s₀.heap.get? b=some o∧X.H₀ b=none
 bsz:X.base.objs.size≤X.s₀.heap.objs.size
 noex:∀ b o,X.base.get? b=some o→b ∉ X.ex
 exfs:∀ b∈X.ex,b ∉ X.fs
 funs:X.s₀.heap.FunFrames X.base X.outer
 frf:∀ b∈X.fs,X.H₀ b=none
structure Inv (X:Cx) (pins:List (Addr × Obj)) (σ:List (Option V)) (H:Hp) (s:Shared):Prop where
 ok:X.Ok
 os:s.os=X.s₀.os
 bare:AllBare s.gens
 base:Un X.fs X.ex X.H₀ H X.s₀.heap s.heap
 loc:∃ m,s.heap.Ns X.env.locals m∧∀ (i:Nat) (x:Str) (v:V),X.N[i]?=some x→σ[i]?=some (some v)→Vis X.env.scope x→∃ u,RelV v u∧Dl X.env s.heap m x u
 cell:∀ x c,X.env.cells.lookup x=some c→∃ v,s.heap.IsCell c v
 free:H X.env.locals=none
 freeC:∀ x c,X.env.cells.lookup x=some c→H c=none
 pin:∀ p∈X.pn++pins,s.heap.get? p.1=some p.2∧H p.1=none∧p.1≠X.env.locals∧p.1 ∉ X.fs∧∀ v,p.2.data≠.cell v
 hok:HOk X.prog X.w H s.heap
 len:σ.length=X.N.length
section
variable {X:Cx} {pins:List (Addr × Obj)} {σ:List (Option V)} {H H':Hp} {s:Shared} {h':Heap}
theorem Cx.Ok.nofr (ok:X.Ok) {b:Addr} {o:Obj} (e:X.base.get? b=some o):b ∉ X.fs:=fun hb=>by
 have:=(ok.funs.mem hb).1
 rw [e] at this; cases this
theorem Inv.bs (I:Inv X pins σ H s):∀ b o,X.base.get? b=some o→s.heap.get? b=some o∧H b=none:=fun b o e =>
 ⟨I.base.keep b o (I.ok.bs b o e).1 (I.ok.bs b o e).2 (I.ok.nofr e) (I.ok.noex b o e),I.base.free b o (I.ok.bs b o e).1 (I.ok.bs b o e).2 (I.ok.noex b o e)⟩
theorem Inv.bk (I:Inv X pins σ H s):∀ b o,X.base.get? b=some o→s.heap.get? b=some o:=fun b o e=>(I.bs b o e).1
theorem Inv.mod (I:Inv X pins σ H s):Mod X.K X.mg X.base:=I.ok.mod
theorem Inv.kIn (I:Inv X pins σ H s):X.K.In s.heap:=I.ok.mod.kin.keeps I.bk
theorem Inv.lt (I:Inv X pins σ H s):X.env.locals < s.heap.objs.size:=let ⟨_,hn,_⟩:=I.loc; hn.lt
theorem Inv.sz (I:Inv X pins σ H s):X.s₀.heap.objs.size≤s.heap.objs.size:=Nat.le_trans I.ok.above (Nat.le_of_lt I.lt)
theorem Inv.nofs (I:Inv X pins σ H s) {a:Addr} (h:s.heap.objs.size≤a):a ∉ X.fs:=fun hb=>by
 obtain ⟨_,o,ho,_⟩:=I.ok.funs.mem hb
 exact absurd (Nat.lt_of_lt_of_le (Heap.lt_size ho) (Nat.le_trans I.sz h)) (Nat.lt_irrefl _)
theorem Inv.cne (I:Inv X pins σ H s):∀ x c,X.env.cells.lookup x=some c→c≠X.env.locals:=fun x c e z=>by
 obtain ⟨v,o,ho,hd⟩:=I.cell x c e
 obtain ⟨m,⟨o',es,ep,ho',hd',_⟩,_⟩:=I.loc
 rw [z,ho'] at ho; cases ho; rw [hd'] at hd; cases hd
theorem Inv.funs (I:Inv X pins σ H s):s.heap.FunFrames X.base X.outer:=by
 have all:∀ (l:List Env),(∀ b∈frs l,b∈X.fs)→X.s₀.heap.FunFrames X.base l→s.heap.FunFrames X.base l:=by
  intro l
  induction l with
  | nil=>intro _ _; trivial
  | cons env r ih =>
   intro hs hl
   obtain ⟨hk,⟨L,o,hf,hn,ho,hd⟩,hr⟩:=hl
   have hL:L∈X.fs:=hs L (by unfold frs; rw [List.filterMap_cons,hf]; exact List.mem_cons_self)
   obtain ⟨sl,e⟩:=I.base.slot L o ho (I.ok.frf L hL) hL fun z=>I.ok.exfs L z hL
   exact ⟨hk,⟨L,_,hf,hn,e,hd⟩,ih (fun b hb=>hs b (by unfold frs; rw [List.filterMap_cons,hf]; exact List.mem_cons_of_mem _ hb)) hr⟩
 exact all X.outer (fun _ hb=>hb) I.ok.funs
theorem Inv.stack (I:Inv X pins σ H s):s.heap.FunFrames X.base X.stack:=by
 rcases I.ok.stk with e | ⟨e,hf⟩
 ·rw [e]; exact I.funs
 ·rw [e]
  obtain ⟨m,hn,_⟩:=I.loc
  refine .cons (by rw [I.ok.kind]; decide) hf hn ?_ I.funs
  exact Heap.get?_none_of_le (Nat.le_trans I.ok.bsz I.ok.above)
theorem Inv.stkSub (I:Inv X pins σ H s):∀ b∈frs X.stack,b∈X.env.locals :: X.fs:=fun b hb=>by
 rcases I.ok.stk with e | ⟨e,hf⟩
 ·rw [e] at hb; exact List.mem_cons_of_mem _ hb
 ·rw [e] at hb
  unfold frs at hb
  rw [List.filterMap_cons,hf] at hb
  exact hb
theorem Inv.stkFree (I:Inv X pins σ H s):∀ b∈frs X.stack,H b=none:=fun b hb=>by
 rcases List.mem_cons.mp (I.stkSub b hb) with e | hb
 ·rw [e]; exact I.free
 ·obtain ⟨_,o,ho,_⟩:=I.ok.funs.mem hb
  exact I.base.free b o ho (I.ok.frf b hb) fun z=>I.ok.exfs b z hb
theorem Inv.step {g':Array GenState} {t':Nat} {d':Drawn} {ch:List Addr} (I:Inv X pins σ H s)
  (hch:∀ b∈ch,(b∈X.ex∨X.s₀.heap.objs.size≤b)∧b≠X.env.locals∧(∀ x c,X.env.cells.lookup x=some c→c≠b)∧∀ p∈X.pn++pins,p.1≠b)
  (keep:∀ b o,b≠X.env.locals→b ∉ X.fs→b ∉ ch→s.heap.get? b=some o→H b=none→h'.get? b=some o)
  (slot:∀ b o,b≠X.env.locals→b∈X.fs→b ∉ ch→s.heap.get? b=some o→H b=none→∃ sl,h'.get? b=some { o with slots:=sl }) (free:∀ b o,b ∉ ch→s.heap.get? b=some o→H b=none→H' b=none)
  (there:∀ b o,b ∉ ch→s.heap.get? b=some o→∃ o',h'.get? b=some o')
  (tups:∀ b xs,H b=some (.tup xs)→H' b=some (.tup xs)) (frzs:∀ b o u,H b=some (.frz o u)→H' b=some (.frz o u)) (tbls:∀ b ps,H b=some (.tbl ps)→∃ more,H' b=some (.tbl (ps++more)))
  (ns:∀ m,s.heap.Ns X.env.locals m→h'.Ns X.env.locals m) (hok:HOk X.prog X.w H' h') (hg:AllBare g') :
  Inv X pins σ H' { s with heap:=h',gens:=g',drawn:=d',toks:=t' }:=by
 have neL:∀ b o,X.s₀.heap.get? b=some o→b≠X.env.locals:=fun b o e=>Nat.ne_of_lt (Nat.lt_of_lt_of_le (Heap.lt_size e) I.ok.above)
 have neC:∀ b o,X.s₀.heap.get? b=some o→b ∉ X.ex→b ∉ ch:=fun b o e hx hb=>by
  rcases (hch b hb).1 with z | z
  ·exact hx z
  ·exact absurd (Nat.lt_of_lt_of_le (Heap.lt_size e) z) (Nat.lt_irrefl _)
 have cellK:∀ x c,X.env.cells.lookup x=some c→∀ v,s.heap.IsCell c v→h'.IsCell c v:=fun x c e v ⟨o,ho,hd⟩=>by
  have nch:c ∉ ch:=fun z=>(hch c z).2.2.1 x c e rfl
  by_cases hc:c∈X.fs
  ·obtain ⟨sl,q⟩:=slot c o (I.cne x c e) hc nch ho (I.freeC x c e)
   exact ⟨_,q,hd⟩
  ·exact ⟨o,keep c o (I.cne x c e) hc nch ho (I.freeC x c e),hd⟩
 refine ⟨I.ok,I.os,hg,⟨fun b o e n hb hx=>?_,fun b o e n hb hx=>?_,fun b o e n hx=>?_,fun b o e hx=>?_,fun b xs e=>tups b xs (I.base.tups b xs e),fun b o xs e=>frzs b o xs (I.base.frzs b o xs e),fun b ps e=>?_⟩,?_,fun x c e=>?_,?_,fun x c e=>?_,fun p hp=>?_,hok,I.len⟩
 ·exact keep b o (neL b o e) hb (neC b o e hx) (I.base.keep b o e n hb hx) (I.base.free b o e n hx)
 ·obtain ⟨sl,e1⟩:=I.base.slot b o e n hb hx
  obtain ⟨sl',e2⟩:=slot b _ (neL b o e) hb (neC b o e hx) e1 (I.base.free b o e n hx)
  exact ⟨sl',e2⟩
 ·obtain ⟨o',e1⟩:=I.base.there b o e hx
  exact free b o' (neC b o e hx) e1 (I.base.free b o e n hx)
 ·obtain ⟨o',e1⟩:=I.base.there b o e hx
  exact there b o' (neC b o e hx) e1
 ·obtain ⟨m1,e1⟩:=I.base.tbls b ps e
  obtain ⟨m2,e2⟩:=tbls b _ e1
  exact ⟨m1++m2,by rw [e2,Array.append_assoc]⟩
 ·obtain ⟨m,hn,hl⟩:=I.loc
  refine ⟨m,ns m hn,fun i x v e1 e2 e3=>?_⟩
  obtain ⟨u,r,l⟩:=hl i x v e1 e2 e3
  refine ⟨u,r,?_⟩
  rcases l with l | ⟨k,c,e,z⟩
  ·exact .inl l
  ·exact .inr ⟨k,c,e,cellK x c e _ z⟩
 ·obtain ⟨v,z⟩:=I.cell x c e
  exact ⟨v,cellK x c e v z⟩
 ·obtain ⟨m,⟨o,_,_,ho,_⟩,_⟩:=I.loc
  exact free _ o (fun z=>(hch _ z).2.1 rfl) ho I.free
 ·obtain ⟨v,o,ho,hd⟩:=I.cell x c e
  exact free c o (fun z=>(hch c z).2.2.1 x c e rfl) ho (I.freeC x c e)
 ·obtain ⟨e,n,ne,nf,d⟩:=I.pin p hp
  have nch:p.1 ∉ ch:=fun z=>(hch p.1 z).2.2.2 p hp rfl
  exact ⟨keep p.1 p.2 ne nf nch e n,free p.1 p.2 nch e n,ne,nf,d⟩
theorem Inv.un {t':Nat} (I:Inv X pins σ H s) (u:Un X.fs [] H H' s.heap h') (hok:HOk X.prog X.w H' h'):Inv X pins σ H' { s with heap:=h',toks:=t' }:=by
 obtain ⟨m,⟨o,es,ep,ho,r⟩,_⟩:=id I.loc
 obtain ⟨sl,hL⟩:=u.any ho I.free (by simp)
 exact I.step (g':=s.gens) (d':=s.drawn) (ch:=[]) (fun _ z=>nomatch z) (fun b o _ hb _ e n=>u.keep b o e n hb (by simp)) (fun b o _ hb _ e n=>u.slot b o e n hb (by simp)) (fun b o _ e n=>u.free b o e n (by simp)) (fun b o _ e=>u.there b o e (by simp)) u.tups u.frzs u.tbls (fun m' hm=>by
  obtain ⟨o',es',ep',ho',r'⟩:=hm
  rw [ho] at ho'; cases ho'
  exact ⟨_,es',ep',hL,r'⟩) hok I.bare
theorem Inv.call {g':Array GenState} {t':Nat} {d':Drawn} {ch:List Addr} (I:Inv X pins σ H s) (u:Un (frs X.stack) ch H H' s.heap h') (hok:HOk X.prog X.w H' h') (hg:AllBare g')
  (hch:∀ b∈ch,(b∈X.ex∨X.s₀.heap.objs.size≤b)∧b≠X.env.locals∧(∀ x c,X.env.cells.lookup x=some c→c≠b)∧∀ p∈X.pn++pins,p.1≠b) :
  Inv X pins σ H' { s with heap:=h',gens:=g',drawn:=d',toks:=t' }:=by
 obtain ⟨m,⟨o,es,ep,ho,r⟩,_⟩:=id I.loc
 obtain ⟨sl,hL⟩:=u.any ho I.free fun z=>(hch _ z).2.1 rfl
 exact I.step (ch:=ch) hch (fun b o hL hb hc e n=>u.keep b o e n (fun z=>(List.mem_cons.mp (I.stkSub b z)).elim hL hb) hc) (fun b o _ _ hc e n=>u.any e n hc) (fun b o hc e n=>u.free b o e n hc) (fun b o hc e=>u.there b o e hc) u.tups u.frzs u.tbls (fun m' hm=>by
  obtain ⟨o',es',ep',ho',r'⟩:=hm
  rw [ho] at ho'; cases ho'
  exact ⟨_,es',ep',hL,r'⟩) hok hg
theorem Inv.turned {t':Nat} {it:Addr} (I:Inv X pins σ H s) (k:∀ b o,b≠it→s.heap.get? b=some o→h'.get? b=some o) (hn:H it=none) (hL:it≠X.env.locals)
  (h1:it∈X.ex∨X.s₀.heap.objs.size≤it) (h2:∀ x c,X.env.cells.lookup x=some c→c≠it) (h3:∀ p∈X.pn++pins,p.1≠it):Inv X pins σ H { s with heap:=h',toks:=t' }:=by
 have nit:∀ b u,H b=some u→b≠it:=fun b u e z=>by rw [z,hn] at e; cases e
 refine I.step (g':=s.gens) (d':=s.drawn) (ch:=[it]) (fun b hb=>?_) (fun b o _ _ hc e _=>k b o (fun z=>hc (by simp [z])) e) (fun b o _ _ hc e _=>⟨o.slots,k b o (fun z=>hc (by simp [z])) e⟩) (fun _ _ _ _ n=>n)
  (fun b o hc e=>⟨o,k b o (fun z=>hc (by simp [z])) e⟩) (fun _ _ e=>e) (fun _ _ _ e=>e) (fun b ps e=>⟨#[],by rw [e]; simp⟩) (fun m hm=>?_) (fun b u e=>?_) I.bare
 ·have e:b=it:=by simpa using hb
  subst e
  exact ⟨h1,hL,h2,h3⟩
 ·obtain ⟨o,es,ep,ho,r⟩:=hm
  exact ⟨o,es,ep,k _ o (Ne.symm hL) ho,r⟩
 ·refine (I.hok b u e).stay (fun c v hc q=>k c v ?_ q) (fun _ q=>q) fun _ _ q=>q
  rcases hc with z | z
  ·rw [z]; exact nit b u e
  ·exact nit c _ z
theorem Inv.tok (I:Inv X pins σ H s) (t:Nat):Inv X pins σ H { s with toks:=t }:=I.un (h':=s.heap) (t':=t) Un.refl I.hok
theorem Inv.kept {t':Nat} (I:Inv X pins σ H s) (k:∀ b u,s.heap.get? b=some u→h'.get? b=some u):Inv X pins σ H { s with heap:=h',toks:=t' }:=I.un (Un.kept k) (I.hok.kept k)
theorem Inv.laid {a:Addr} {o:HO} {t':Nat} (I:Inv X pins σ H s) (k:∀ b u,s.heap.get? b=some u→h'.get? b=some u) (hp:s.heap.objs.size≤a) (new:ObjOk X.prog X.w (upd H a o) h' a o) :
  Inv X pins σ (upd H a o) { s with heap:=h',toks:=t' }:=I.un (Un.laid k hp (I.hok.fresh hp)) (I.hok.laid k hp new)
theorem Inv.write {x e:Addr} {o:HO} {t':Nat} (I:Inv X pins σ H s) (mu:Mut (H x)) (he:e=x∨H e=some (.own x)) (k:∀ b u,b≠e→s.heap.get? b=some u→h'.get? b=some u) (heo:∃ u,h'.get? e=some u)
  (new:ObjOk X.prog X.w (upd H x o) h' x o):Inv X pins σ (upd H x o) { s with heap:=h',toks:=t' }:=I.un (Un.write mu he k heo) (I.hok.write mu he k heo new)
theorem Inv.pins_of {pins':List (Addr × Obj)} (I:Inv X pins σ H s) (h:∀ p∈pins',s.heap.get? p.1=some p.2∧H p.1=none∧p.1≠X.env.locals∧p.1 ∉ X.fs∧∀ v,p.2.data≠.cell v):Inv X pins' σ H s :=
 ⟨I.ok,I.os,I.bare,I.base,I.loc,I.cell,I.free,I.freeC,fun p hp=>(List.mem_append.mp hp).elim (fun z=>I.pin p (List.mem_append_left _ z)) (h p),I.hok,I.len⟩
theorem kB {N:List Str} (hN:N.Nodup) {i j:Nat} {x:Str} (a:N[i]?=some x) (b:N[j]?=some x):i=j:=by
 obtain ⟨h1,e1⟩:=List.getElem?_eq_some_iff.mp a
 obtain ⟨h2,e2⟩:=List.getElem?_eq_some_iff.mp b
 exact (List.getElem_inj hN).mp (e1.trans e2.symm)
theorem jz {M:Model} {A:Around} {E:Value→Shared→Prop} {i:Nat} {x:Str} {v:V} {u:Value} {Q:Unit→Shared→Prop} (I:Inv X pins σ H s) (hN:X.N.Nodup) (hi:X.N[i]?=some x) (hx:Loc X.env.scope x) (r:RelV v u)
  (h:∀ s',Inv X pins (σ.set i (some v)) H s'→(∃ a,Heap.SameBut a s.heap s'.heap∧(a=X.env.locals∨X.env.cells.lookup x=some a))→Q () s') (hf:X.fn x=true∨X.env.scope.names.lookup x=some .local:=by first | exact .inl rfl | exact .inr rfl | assumption):wpAny M A (storeName X.env x u) Q E s:=by
 obtain ⟨m,hn,hl⟩:=id I.loc
 have hcls:(X.env.scope.kind == .class || (X.env.scope.kind == .module && X.env.locals != X.env.globals))=false:=by rw [I.ok.kind]; rfl
 have hiσ:i < σ.length:=by rw [I.len]; exact (List.getElem?_eq_some_iff.mp hi).1
 have cne:=I.cne
 have tracked:∀ {a:Addr} {h':Heap},(∃ o,s.heap.get? a=some o∧H a=none)→Heap.SameBut a s.heap h'→HOk X.prog X.w H h':=fun {a h'} ha hs b ob e=>by
  obtain ⟨_,_,hfree⟩:=ha
  refine (I.hok b ob e).stay (fun c w' hc q=>(hs.2 c ?_).trans q) (fun _ q=>q) fun _ _ q=>q
  rintro rfl
  rcases hc with rfl | hc
  ·rw [hfree] at e; cases e
  ·rw [hfree] at hc; cases hc
 rcases hx with hk | hk
 ·refine wpAny_storeName_local hk hn (fun h' hn' hs=>?_) hcls
  obtain ⟨oL,_,_,hoL,_⟩:=id hn
  refine h _ ⟨I.ok,I.os,I.bare,⟨fun b o e n hb hx=>?_,fun b o e n hb hx=>?_,I.base.free,fun b o e hx=>?_,I.base.tups,I.base.frzs,I.base.tbls⟩,⟨_,hn',fun j y v' e1 e2 e3=>?_⟩,fun y c e=>?_,I.free,I.freeC,fun p hp=>?_,tracked ⟨oL,hoL,I.free⟩ hs,by simpa using I.len⟩ ⟨_,hs,.inl rfl⟩
  ·exact (hs.2 b (Nat.ne_of_lt (Nat.lt_of_lt_of_le (Heap.lt_size e) I.ok.above))).trans (I.base.keep b o e n hb hx)
  ·obtain ⟨sl,e1⟩:=I.base.slot b o e n hb hx
   exact ⟨sl,(hs.2 b (Nat.ne_of_lt (Nat.lt_of_lt_of_le (Heap.lt_size e) I.ok.above))).trans e1⟩
  ·obtain ⟨o',e1⟩:=I.base.there b o e hx
   exact ⟨o',(hs.2 b (Nat.ne_of_lt (Nat.lt_of_lt_of_le (Heap.lt_size e) I.ok.above))).trans e1⟩
  ·by_cases hj:j=i
   ·subst hj
    rw [hi] at e1; cases e1
    rw [List.getElem?_set_self hiσ] at e2
    cases e2
    exact ⟨u,r,.inl ⟨hk,by simp⟩⟩
   ·rw [List.getElem?_set_ne (Ne.symm hj)] at e2
    obtain ⟨u',r',q⟩:=hl j y v' e1 e2 e3
    refine ⟨u',r',?_⟩
    rcases q with ⟨k,e⟩ | ⟨k,c,e,z⟩
    ·refine .inl ⟨k,?_⟩
     have:y≠x:=fun e=>hj (kB hN e1 (e ▸ hi))
     simp [this,e]
    ·exact .inr ⟨k,c,e,z.sameBut hs (cne y c e)⟩
  ·obtain ⟨w',z⟩:=I.cell y c e
   exact ⟨w',z.sameBut hs (cne y c e)⟩
  ·obtain ⟨e,n,ne,nf,d⟩:=I.pin p hp
   exact ⟨(hs.2 p.1 ne).trans e,n,ne,nf,d⟩
 ·have hfn:X.fn x=true:=by
   rcases hf with z | z
   ·exact z
   ·rw [z] at hk; cases hk
  obtain ⟨c,hc⟩:=I.ok.has x (.inl hk)
  obtain ⟨w',z⟩:=I.cell x c hc
  refine wpAny_storeName_cell I.ok.kind hk hc z (fun h' hc' hs=>?_)
  obtain ⟨oc,hoc,hocd⟩:=id z
  refine h { s with heap:=h' } ⟨I.ok,I.os,I.bare,⟨fun b o e n hb hx=>?_,fun b o e n hb hx=>?_,I.base.free,fun b o e hx=>?_,I.base.tups,I.base.frzs,I.base.tbls⟩,⟨m,hn.sameBut hs (Ne.symm (cne x c hc)),fun j y v' e1 e2 e3=>?_⟩,fun y c' e=>?_,I.free,I.freeC,fun p hp=>?_,tracked ⟨oc,hoc,I.freeC x c hc⟩ hs,by simpa using I.len⟩ ⟨c,hs,.inr hc⟩
  ·exact (hs.2 b (Nat.ne_of_lt (Nat.lt_of_lt_of_le (Heap.lt_size e) (I.ok.cab x c hfn hc)))).trans (I.base.keep b o e n hb hx)
  ·obtain ⟨sl,e1⟩:=I.base.slot b o e n hb hx
   exact ⟨sl,(hs.2 b (Nat.ne_of_lt (Nat.lt_of_lt_of_le (Heap.lt_size e) (I.ok.cab x c hfn hc)))).trans e1⟩
  ·obtain ⟨o',e1⟩:=I.base.there b o e hx
   exact ⟨o',(hs.2 b (Nat.ne_of_lt (Nat.lt_of_lt_of_le (Heap.lt_size e) (I.ok.cab x c hfn hc)))).trans e1⟩
  ·by_cases hj:j=i
   ·subst hj
    rw [hi] at e1; cases e1
    rw [List.getElem?_set_self hiσ] at e2
    cases e2
    exact ⟨u,r,.inr ⟨.inl hk,c,hc,hc'⟩⟩
   ·rw [List.getElem?_set_ne (Ne.symm hj)] at e2
    obtain ⟨u',r',q⟩:=hl j y v' e1 e2 e3
    refine ⟨u',r',?_⟩
    rcases q with q | ⟨k,c',e,z'⟩
    ·exact .inl q
    ·refine .inr ⟨k,c',e,z'.sameBut hs ?_⟩
     rintro rfl
     exact hj (kB hN e1 (I.ok.inj _ _ _ e hc ▸ hi))
  ·by_cases hcc:c'=c
   ·subst hcc; exact ⟨_,hc'⟩
   ·obtain ⟨w2,z2⟩:=I.cell y c' e
    exact ⟨w2,z2.sameBut hs hcc⟩
  ·obtain ⟨e,n,ne,nf,d⟩:=I.pin p hp
   refine ⟨(hs.2 p.1 ?_).trans e,n,ne,nf,d⟩
   intro q
   rw [q,hoc] at e
   have q':oc=p.2:=Option.some.inj e
   exact d w' (by rw [← q']; exact hocd)
theorem kj {M:Model} {A:Around} {E:Value→Shared→Prop} {i:Nat} {x:Str} {v:V} {u:Value} {Q:Unit→Shared→Prop} (I:Inv X pins σ H s) (hN:X.N.Nodup) (hi:X.N[i]?=some x) (hx:Loc X.env.scope x) (r:RelV v u)
  (h:∀ s',Inv X pins (σ.set i (some v)) H s'→Q () s') (hf:X.fn x=true∨X.env.scope.names.lookup x=some .local:=by first | exact .inl rfl | exact .inr rfl | assumption):wpAny M A (storeName X.env x u) Q E s :=
 jz I hN hi hx r (fun s' I' _=>h s' I') hf
theorem Inv.call' {s':Shared} {ch:List Addr} (I:Inv X pins σ H s) (ho:s'.os=s.os) (u:Un (frs X.stack) ch H H' s.heap s'.heap) (hok:HOk X.prog X.w H' s'.heap) (hg:AllBare s'.gens)
  (hch:∀ b∈ch,(b∈X.ex∨X.s₀.heap.objs.size≤b)∧b≠X.env.locals∧(∀ x c,X.env.cells.lookup x=some c→c≠b)∧∀ p∈X.pn++pins,p.1≠b):Inv X pins σ H' s':=by
 obtain ⟨h',g',d',t',o'⟩:=s'
 have e:o'=s.os:=ho
 subst e
 exact I.call (g':=g') (t':=t') (d':=d') u hok hg hch
end
abbrev XK:=Value→Option Addr→Hp→Prop
abbrev St:=List (Option V)
abbrev VK:=V→Hp→Prop
abbrev TE:=St→Hp→VK→Prop
abbrev TT:=St→Hp→(Bool→Hp→Prop)→Prop
abbrev TA:=St→Hp→(List V→Hp→Prop)→Prop
structure Ends where
 nx:St→Hp→Prop
 rt:VK
 bk:St→Hp→Prop:=fun _ _=>False
 ct:St→Hp→Prop:=fun _ _=>False
abbrev TS:=Ends→St→Hp→Prop
def EP (X:Cx) (pins:List (Addr × Obj)) (σ:St) (Q:VK) (u:Value) (s':Shared):Prop:=∃ v H',Inv X pins σ H' s'∧RelV v u∧Q v H'
def TP (X:Cx) (pins:List (Addr × Obj)) (σ:St) (Q:Bool→Hp→Prop) (b:Bool) (s':Shared):Prop:=∃ H',Inv X pins σ H' s'∧Q b H'
def AP (X:Cx) (pins:List (Addr × Obj)) (σ:St) (Q:List V→Hp→Prop) (us:List Value) (s':Shared):Prop:=∃ vs H',Inv X pins σ H' s'∧Vals vs us∧Q vs H'
def SP (X:Cx) (pins:List (Addr × Obj)) (D:Ends) (f:Flow) (s':Shared):Prop :=
 match f with
 | .next=>∃ σ' H',Inv X pins σ' H' s'∧D.nx σ' H'
 | .brk=>∃ σ' H',Inv X pins σ' H' s'∧D.bk σ' H'
 | .cont=>∃ σ' H',Inv X pins σ' H' s'∧D.ct σ' H'
 | .ret u=>∃ v σ' H',Inv X pins σ' H' s'∧RelV v u∧D.rt v H'
def PE (X:Cx) (e:Expr) (t:TE):Prop :=
 ∀ (pins:List (Addr × Obj)) (s:Shared) (σ:St) (H:Hp) (Q:VK),Inv X pins σ H s→t σ H Q→wpAny (model X.prog X.w) X.A (eval e X.env) (EP X pins σ Q) X.xe s
def PT (X:Cx) (e:Expr) (t:TT):Prop :=
 ∀ (pins:List (Addr × Obj)) (s:Shared) (σ:St) (H:Hp) (Q:Bool→Hp→Prop),Inv X pins σ H s→t σ H Q→wpAny (model X.prog X.w) X.A (isTrue e X.env (eval e X.env)) (TP X pins σ Q) X.xe s
def PW (X:Cx) (e:Expr) (t:TT):Prop :=
 ∀ (whole:Sem Value) (pins:List (Addr × Obj)) (s:Shared) (σ:St) (H:Hp) (Q:Bool→Hp→Prop),Inv X pins σ H s→t σ H Q→wpAny (model X.prog X.w) X.A (isTrue e X.env whole) (TP X pins σ Q) X.xe s
theorem PW.pt {X:Cx} {e:Expr} {t:TT} (h:PW X e t):PT X e t:=h _
def PA (X:Cx) (es:List Expr) (t:TA):Prop :=
 ∀ (pos:Pos) (pins:List (Addr × Obj)) (s:Shared) (σ:St) (H:Hp) (Q:List V→Hp→Prop),Inv X pins σ H s→t σ H Q→wpAny (model X.prog X.w) X.A (spliced (backTo pos (starEach es X.env))) (AP X pins σ Q) X.xe s
def PS (X:Cx) (st:Stmt) (t:TS):Prop :=
 ∀ (pins:List (Addr × Obj)) (s:Shared) (σ:St) (H:Hp) (D:Ends),Inv X pins σ H s→t D σ H→wpAny (model X.prog X.w) X.A (exec st X.env) (SP X pins D) X.xe s
def PSs (X:Cx) (st:List Stmt) (t:TS):Prop :=
 ∀ (pins:List (Addr × Obj)) (s:Shared) (σ:St) (H:Hp) (D:Ends),Inv X pins σ H s→t D σ H→wpAny (model X.prog X.w) X.A (execs st X.env) (SP X pins D) X.xe s
theorem thn {α:Type} {t:Sem α} {Q Q':α→Shared→Prop} {M:Model} {A:Around} {E:Value→Shared→Prop} {s:Shared} (h:wpAny M A t Q E s) (hQ:∀ a s,Q a s→Q' a s):wpAny M A t Q' E s:=wpAny_mono h hQ fun _ _ x=>x
end L2
namespace L2
open PySem PySem.Spec PyProof.Rows
section
variable {X:Cx}
def fB (i:Nat):TE:=fun σ H Q=>∃ v,σ[i]?=some (some v)∧Q v H
def tC (v:V):TE:=fun _ H Q=>Q v H
theorem dP {i:Nat} {x:Str} {pos:Pos} (hN:X.N[i]?=some x) (hv:Vis X.env.scope x) (hd:(x == ("__debug__" : Str))=false:=by decide) (hcd:(x == ("__classdict__" : Str))=false:=by decide):PE X (.Name x pos) (fB i):=by
 intro pins s σ H Q I h
 obtain ⟨v,e,h⟩:=h
 obtain ⟨m,hn,hl⟩:=I.loc
 obtain ⟨u,r,l⟩:=hl i x v hN e hv
 have fin:EP X pins σ Q u s:=⟨v,H,I,r,h⟩
 rcases l with ⟨hk,hm⟩ | ⟨hk,c,hc,hcell⟩
 ·exact wpAny_Name (wpAny_loadName_local I.ok.kind hk hn hm fin) hd
 ·rcases hk with hk | hk
  ·exact wpAny_Name (wpAny_loadName_cell I.ok.kind hk hc hcell fin) hd
  ·exact wpAny_Name (wpAny_loadName_free I.ok.kind hk hc hcell fin hcd) hd
theorem pe_int {i j pos}:PE X (.Constant (.int i) j pos) (tC (.int i)):=fun _ _ _ H _ I h=>wpAny_Constant_int ⟨.int i,H,I.tok _,⟨_,rfl⟩,h⟩
theorem pe_bl {b j pos}:PE X (.Constant (.bool b) j pos) (tC (.bl b)):=fun _ _ _ H _ I h=>Constant_bool ⟨.bl b,H,I,rfl,h⟩
theorem pe_non {j pos}:PE X (.Constant .none j pos) (tC .non):=fun _ _ _ H _ I h=>Constant_none ⟨.non,H,I,rfl,h⟩
theorem pe_str {x j pos}:PE X (.Constant (.str x) j pos) (tC (.str x)):=fun _ _ _ H _ I h=>Calls.Constant_str ⟨.str x,H,I.tok _,⟨_,rfl⟩,h⟩
def Gl (X:Cx) (x:Str):Prop:=X.env.kindOf x=some .globalImplicit
theorem jn {E:Value→Shared→Prop} {pins:List (Addr × Obj)} {s:Shared} {σ:St} {H:Hp} {x:Str} {u:Value} {pos:Pos} {Q:Value→Shared→Prop} (I:Inv X pins σ H s) (hg:Gl X x) (hm:X.mg x=some u) (h:Q u s)
  (hd:(x == ("__debug__" : Str))=false:=by decide):wpAny (model X.prog X.w) X.A (eval (.Name x pos) X.env) Q E s :=
 Calls.Name_function_global I.ok.kind hg (Calls.loadGlobal_global (by rw [I.ok.glob]; exact I.mod.glob.keeps I.bk) hm h) hd
theorem iH {E:Value→Shared→Prop} {pins:List (Addr × Obj)} {s:Shared} {σ:St} {H:Hp} {x:Str} {u:Value} {pos:Pos} {Q:Value→Shared→Prop} (I:Inv X pins σ H s) (hg:Gl X x) (hm:X.mg x=none) (hv:bootBuiltins x=some u) (h:Q u s)
  (hn:x≠"__name__":=by decide) (hd:(x == ("__debug__" : Str))=false:=by decide):wpAny (model X.prog X.w) X.A (eval (.Name x pos) X.env) Q E s:=by
 obtain ⟨mb,h1,h2⟩:=I.mod.blt
 exact Calls.Name_function_global I.ok.kind hg (Calls.loadGlobal_builtin (by rw [I.ok.glob]; exact I.mod.glob.keeps I.bk) hm (by rw [I.ok.blt]; exact h1.keeps I.bk) ((h2 x hn).trans hv) h) hd
theorem wT {x:Str} {v:V} {u:Value} {pos:Pos} (hg:Gl X x) (hm:X.mg x=some u) (r:RelV v u) (hd:(x == ("__debug__" : Str))=false:=by decide):PE X (.Name x pos) (tC v) :=
 fun _ _ _ H _ I h=>jn I hg hm ⟨v,H,I,r,h⟩ hd
theorem wW {x:Str} {v:V} {u:Value} {pos:Pos} (hg:Gl X x) (hm:X.mg x=none) (hv:bootBuiltins x=some u) (r:RelV v u) (hn:x≠"__name__":=by decide) (hd:(x == ("__debug__" : Str))=false:=by decide):PE X (.Name x pos) (tC v) :=
 fun _ _ _ H _ I h=>iH I hg hm hv ⟨v,H,I,r,h⟩ hn hd
variable {a b:Expr} {ta tb:TE} {pos:Pos}
def PC (X:Cx) (op:CmpOp) (a b:Expr) (t:TE):Prop :=
 ∀ (pins:List (Addr × Obj)) (s:Shared) (σ:St) (H:Hp) (Q:VK),Inv X pins σ H s→t σ H Q →
  wpAny (model X.prog X.w) X.A (eval a X.env) (fun v s₁=>wpAny (model X.prog X.w) X.A (eval b X.env) (fun u s₂=>wpAny (model X.prog X.w) X.A (compareOp op v u) (EP X pins σ Q) X.xe s₂) X.xe s₁) X.xe s
theorem pD (b:Expr) {op:CmpOp} (h:op≠.In) (h2:op≠.NotIn):behindInMarks op b=false:=by
 have e1:(op == CmpOp.In)=false:=by cases op <;> first | rfl | exact absurd rfl h
 have e2:(op == CmpOp.NotIn)=false:=by cases op <;> first | rfl | exact absurd rfl h2
 cases b <;> simp [behindInMarks,e1,e2]
def tB (t:TE):TT:=fun σ H Q=>t σ H fun x H1=>∃ c,x=.bl c∧Q c H1
theorem AE {op:CmpOp} {t:TE} (h:PC X op a b t) (h1:behindInMarks op b=false:=by first | exact pD _ (by decide) (by decide) | rfl):PT X (.Compare a [op] [b] pos) (tB t):=by
 intro pins s σ H Q I hw
 refine wpAny_isTrue_Compare1 (thn (h pins s σ H _ I hw) fun v s1 h1=>thn h1 fun u s2 h2=>thn h2 fun c s3 ⟨x,H1,I1,r1,q1⟩=>?_) h1
 obtain ⟨d,rfl,q⟩:=q1
 cases r1
 exact wpAny_truthy_bool ⟨H1,I1,q⟩
theorem AC {e:Expr} {t:TE} (h:PE X e t) (he:∀ whole,isTrue e X.env whole=(do let v ← whole; standAt e.pos; holding [v] (truthy v)):=by intro _; rfl):PT X e (tB t):=by
 intro pins s σ H Q I hw
 refine isTrue_plain (thn (h pins s σ H _ I hw) fun v s1 ⟨x,H1,I1,r1,q1⟩=>?_) (he _)
 obtain ⟨d,rfl,q⟩:=q1
 cases r1
 exact wpAny_truthy_bool ⟨H1,I1,q⟩
variable {tA tB':TT} {rest:List Expr}
def Ap (t u:TT):TT:=fun σ H Q=>t σ H fun c H1=>if c=true then u σ H1 Q else Q false H1
def tOr (t u:TT):TT:=fun σ H Q=>t σ H fun c H1=>if c=true then Q true H1 else u σ H1 Q
def Aj (t:TT):TT:=fun σ H Q=>t σ H fun c H1=>Q (!c) H1
theorem wI (ha:PT X a tA):PW X (.BoolOp .And [a] pos) tA:=by
 intro wh pins s σ H Q I h
 refine isTrue_and (thn (ha pins s σ H Q I h) fun c s1 e=>?_)
 cases c with
 | true=>exact isTrue_and_nil e
 | false=>exact e
theorem Az (ha:PT X a tA):PW X (.BoolOp .Or [a] pos) tA:=by
 intro wh pins s σ H Q I h
 refine isTrue_or (thn (ha pins s σ H Q I h) fun c s1 e=>?_)
 cases c with
 | false=>exact isTrue_or_nil e
 | true=>exact e
theorem AA (ha:PT X a tA) (hb:PW X (.BoolOp .And (b :: rest) pos) tB'):PW X (.BoolOp .And (a :: b :: rest) pos) (Ap tA tB'):=by
 intro wh pins s σ H Q I h
 refine isTrue_and (thn (ha pins s σ H _ I h) fun c s1 ⟨H1,I1,q1⟩=>?_)
 cases c with
 | true=>exact hb wh pins s1 σ H1 Q I1 q1
 | false=>exact ⟨H1,I1,q1⟩
theorem Ch (ha:PT X a tA) (hb:PW X (.BoolOp .Or (b :: rest) pos) tB'):PW X (.BoolOp .Or (a :: b :: rest) pos) (tOr tA tB'):=by
 intro wh pins s σ H Q I h
 refine isTrue_or (thn (ha pins s σ H _ I h) fun c s1 ⟨H1,I1,q1⟩=>?_)
 cases c with
 | true=>exact ⟨H1,I1,q1⟩
 | false=>exact hb wh pins s1 σ H1 Q I1 q1
theorem AD (ha:PT X a tA):PT X (.UnaryOp .Not a pos) (Aj tA):=by
 intro pins s σ H Q I h
 exact isTrue_not (ha pins s σ H (fun c H1=>Q (!c) H1) I h)
def v6 (ta tb:TE):TE:=fun σ H Q=>ta σ H fun x H1=>∃ c,x=.bl c∧if c=true then tb σ H1 Q else Q (.bl false) H1
theorem AM {op} {t:TE} (h:PE X a t):PE X (.BoolOp op [a] pos) t:=fun pins s σ H Q I hw=>BoolOp_one (h pins s σ H Q I hw)
theorem AQ (ha:PE X a ta) (hb:PE X (.BoolOp .And (b :: rest) pos) tb):PE X (.BoolOp .And (a :: b :: rest) pos) (v6 ta tb):=by
 intro pins s σ H Q I h
 refine BoolOp_and (thn (ha pins s σ H _ I h) fun v s1 ⟨x,H1,I1,r1,q1⟩=>?_)
 obtain ⟨c,rfl,q1⟩:=q1
 cases r1
 refine wpAny_truthy_bool ?_
 cases c with
 | true=>exact hb pins s1 σ H1 Q I1 q1
 | false=>exact ⟨.bl false,H1,I1,rfl,q1⟩
end
end L2
namespace L2
open PySem PySem.Spec PyProof.Rows
def SqL (K:PySem.W.Frag) (H:Hp) (a:Addr) (xs:List V):Prop :=
 Rd H a (.lst xs) ∨
  ∃ (o:Obj) (its:Array Value) (n:Nat),K.lookup a=some o∧o.cls=.type "list"∧o.dict=none∧o.data=.seq its n∧its.size≤sizeLine∧Vals xs its.toList
def SqT (K:PySem.W.Frag) (H:Hp) (a:Addr) (xs:List V):Prop :=
 Rd H a (.tup xs) ∨
  ∃ (o:Obj) (its:Array Value) (n:Nat),K.lookup a=some o∧o.cls=.type "tuple"∧o.data=.seq its n∧its.size≤sizeLine∧Vals xs its.toList
def Dg:Value→Option V
 | .none=>some .non
 | .bool b=>some (.bl b)
 | .int i _=>some (.int i)
 | .str x _=>some (.str x)
 | .bytes b _=>some (.byt b)
 | .float b _=>some (.flt b)
 | .ref a=>some (.ref a)
 | .type n=>some (.ty n)
 | _=>none
theorem RelV.abs {x:V} {u:Value} (r:RelV x u):Dg u=some x:=by
 cases x with
 | non=>cases r; rfl
 | bl _=>cases r; rfl
 | int _=>obtain ⟨t,rfl⟩:=r; rfl
 | str _=>obtain ⟨t,rfl⟩:=r; rfl
 | byt _=>obtain ⟨t,rfl⟩:=r; rfl
 | flt _=>obtain ⟨t,rfl⟩:=r; rfl
 | ref _=>cases r; rfl
 | ty _=>cases r; rfl
theorem RelV.inj {x y:V} {u:Value} (r:RelV x u) (q:RelV y u):x=y:=Option.some.inj (r.abs.symm.trans q.abs)
theorem Vals.inj:∀ {xs ys:List V} {us:List Value},Vals xs us→Vals ys us→xs=ys
 | _,_,_,.nil,.nil=>rfl
 | _,_,_,.cons r t,.cons r' t'=>by rw [r.inj r',Vals.inj t t']
section
variable {X:Cx} {pins:List (Addr × Obj)} {σ:St} {H:Hp} {s:Shared} {a:Addr} {xs ys:List V}
theorem SqL.of {K:PySem.W.Frag} (h:H a=some (.lst xs)):SqL K H a xs:=.inl (.inl h)
theorem SqT.of {K:PySem.W.Frag} (h:H a=some (.tup xs)):SqT K H a xs:=.inl (.inl h)
theorem Inv.list (I:Inv X pins σ H s) (h:SqL X.K H a xs):∃ its:List Value,Vals xs its∧PlainL s.heap a its.toArray∧xs.length≤sizeLine:=by
 rcases h with h | ⟨o,its,n,hk,hc,hd,hs,hz,r⟩
 ·obtain ⟨z,its,n,r,e⟩:=h.ok I.hok
  exact ⟨its,r,⟨_,n,e,rfl,rfl,rfl⟩,z⟩
 ·refine ⟨its.toList,r,⟨o,n,I.kIn a o hk,hc,hd,by simpa using hs⟩,?_⟩
  have e:=r.length
  simp only [Array.length_toList] at e
  omega
theorem Inv.tuple (I:Inv X pins σ H s) (h:SqT X.K H a xs):∃ its:List Value,Vals xs its∧IsTup s.heap a its.toArray∧xs.length≤sizeLine:=by
 rcases h with h | ⟨o,its,n,hk,hc,hs,hz,r⟩
 ·obtain ⟨z,its,r,p⟩:=h.ok I.hok
  exact ⟨its,r,p.tup,z⟩
 ·refine ⟨its.toList,r,⟨o,I.kIn a o hk,hc,n,by simpa using hs⟩,?_⟩
  have e:=r.length
  simp only [Array.length_toList] at e
  omega
theorem Inv.list_inj (I:Inv X pins σ H s) (h:SqL X.K H a xs) (h':SqL X.K H a ys):xs=ys:=by
 obtain ⟨its,r,⟨o,n,e,_,_,d⟩,_⟩:=I.list h
 obtain ⟨its',r',⟨o',n',e',_,_,d'⟩,_⟩:=I.list h'
 rw [e] at e'; cases e'
 rw [d] at d'
 injection d' with d1 _
 have:its=its':=by simpa using congrArg Array.toList d1
 subst this
 exact r.inj r'
theorem Inv.tuple_inj (I:Inv X pins σ H s) (h:SqT X.K H a xs) (h':SqT X.K H a ys):xs=ys:=by
 obtain ⟨its,r,⟨o,e,_,n,d⟩,_⟩:=I.tuple h
 obtain ⟨its',r',⟨o',e',_,n',d'⟩,_⟩:=I.tuple h'
 rw [e] at e'; cases e'
 rw [d] at d'
 injection d' with d1 _
 have:its=its':=by simpa using congrArg Array.toList d1
 subst this
 exact r.inj r'
end
abbrev Cx.wish (X:Cx) (E:Value→Shared→Prop):Cx:={ X with xe:=E }
abbrev Cx.nox (X:Cx):Cx:=X.wish fun _ _=>False
theorem Cx.Ok.wish {X:Cx} (ok:X.Ok) (E:Value→Shared→Prop):(X.wish E).Ok :=
 ⟨ok.mod,ok.kind,ok.glob,ok.blt,ok.above,ok.inj,ok.has,ok.cab,ok.hd,ok.frames,ok.stk,ok.exf,ok.bs,ok.bsz,ok.noex,ok.exfs,ok.funs,ok.frf⟩
theorem Cx.Ok.unwish {X:Cx} {E:Value→Shared→Prop} (ok:(X.wish E).Ok):X.Ok :=
 ⟨ok.mod,ok.kind,ok.glob,ok.blt,ok.above,ok.inj,ok.has,ok.cab,ok.hd,ok.frames,ok.stk,ok.exf,ok.bs,ok.bsz,ok.noex,ok.exfs,ok.funs,ok.frf⟩
section
variable {X:Cx} {pins:List (Addr × Obj)} {σ:St} {H:Hp} {s:Shared} {E:Value→Shared→Prop}
theorem Inv.wish (I:Inv X pins σ H s) (E:Value→Shared→Prop):Inv (X.wish E) pins σ H s:=⟨I.ok.wish E,I.os,I.bare,I.base,I.loc,I.cell,I.free,I.freeC,I.pin,I.hok,I.len⟩
theorem Inv.unwish (I:Inv (X.wish E) pins σ H s):Inv X pins σ H s:=⟨I.ok.unwish,I.os,I.bare,I.base,I.loc,I.cell,I.free,I.freeC,I.pin,I.hok,I.len⟩
theorem SP.unwish {D:Ends} {f:Flow} {s':Shared} (h:SP (X.wish E) pins D f s'):SP X pins D f s':=by
 cases f with
 | next=>obtain ⟨σ',H',I,q⟩:=h; exact ⟨σ',H',I.unwish,q⟩
 | brk=>obtain ⟨σ',H',I,q⟩:=h; exact ⟨σ',H',I.unwish,q⟩
 | cont=>obtain ⟨σ',H',I,q⟩:=h; exact ⟨σ',H',I.unwish,q⟩
 | ret u=>obtain ⟨v,σ',H',I,r,q⟩:=h; exact ⟨v,σ',H',I.unwish,r,q⟩
theorem PSs.nox {st:List Stmt} {t:TS} (h:PSs X.nox st t):PSs X st t:=fun pins s σ H D I hw =>
 wpAny_mono (h pins s σ H D (I.wish _) hw) (fun _ _ q=>q.unwish) fun _ _ z=>False.elim z
end
section
variable {X:Cx} {st:Stmt} {rest:List Stmt} {t u:TS} {e:Expr} {te:TE} {pos:Pos}
def vY:TS:=fun D σ H=>D.nx σ H
def Ah (t u:TS):TS:=fun D σ H=>t { D with nx:=u D } σ H
theorem pss_nil:PSs X [] vY:=fun _ _ σ H _ I h=>wpAny_execs_nil ⟨σ,H,I,h⟩
theorem pp (h1:PS X st t) (h2:PSs X rest u):PSs X (st :: rest) (Ah t u):=by
 intro pins s σ H D I h
 refine wpAny_execs_cons (thn (h1 pins s σ H { D with nx:=u D } I h) fun f s1 q=>?_)
 cases f with
 | next =>
  obtain ⟨σ',H',I',q⟩:=q
  exact h2 pins s1 σ' H' D I' q
 | ret v=>exact q
 | brk=>exact q
 | cont=>exact q
theorem wL (h1:PS X st t):PSs X [st] t:=by
 intro pins s σ H D I h
 refine wpAny_execs_cons (thn (h1 pins s σ H D I h) fun f s1 q=>?_)
 cases f with
 | next=>exact wpAny_execs_nil q
 | ret v=>exact q
 | brk=>exact q
 | cont=>exact q
theorem Inv.quiet {pins:List (Addr × Obj)} {σ:St} {H:Hp} {s:Shared} (I:Inv X pins σ H s):interactive X.env=false:=by simp [interactive,I.ok.kind]
def vZ (te:TE):TS:=fun D σ H=>te σ H fun _ H1=>D.nx σ H1
theorem wM (he:PE X e te) (hs:swapsWith e none pos.line X.env=pure false:=by rfl):PS X (.Expr e pos) (vZ te):=by
 intro pins s σ H D I h
 exact wpAny_Expr_any (thn (he pins s σ H _ I h) fun v s1 ⟨x,H1,I1,r1,q1⟩=>⟨σ,H1,I1,q1⟩) I.quiet hs
def Ai (te:TE):TS:=fun D σ H=>te σ H D.rt
theorem AG (he:PE X e te):PS X (.Return (some e) pos) (Ai te):=by
 intro pins s σ H D I h
 exact wpAny_Return_some (thn (he pins s σ H _ I h) fun v s1 ⟨x,H1,I1,r1,q1⟩=>⟨x,σ,H1,I1,r1,q1⟩)
def Al (c:TT) (t u:TS):TS:=fun D σ H=>c σ H fun b H1=>if b=true then t D σ H1 else u D σ H1
theorem Cj {c:Expr} {a b:List Stmt} {tc:TT} (hc:PT X c tc) (ha:PSs X a t) (hb:PSs X b u):PS X (.If c a b pos) (Al tc t u):=by
 intro pins s σ H D I h
 refine wpAny_If (thn (hc pins s σ H _ I h) fun d s1 ⟨H1,I1,q1⟩=>?_)
 cases d with
 | true=>exact ha pins s1 σ H1 D I1 q1
 | false=>exact hb pins s1 σ H1 D I1 q1
end
abbrev TG:=V→St→Hp→(St→Hp→Prop)→Prop
abbrev TGs:=List V→St→Hp→(St→Hp→Prop)→Prop
def PG (X:Cx) (target:Expr) (t:TG):Prop :=
 ∀ (pins:List (Addr × Obj)) (s:Shared) (σ:St) (H:Hp) (v:V) (u:Value) (Q:St→Hp→Prop),Inv X pins σ H s→RelV v u→t v σ H Q →
  wpAny (model X.prog X.w) X.A (assign target X.env u) (fun _ s'=>∃ σ' H',Inv X pins σ' H' s'∧Q σ' H') X.xe s
abbrev qw:=V→V→V→Hp→(Hp→Prop)→Prop
def B5 (X:Cx) (t:qw):Prop :=
 ∀ (pins:List (Addr × Obj)) (s:Shared) (σ:St) (H:Hp) (o i v:V) (ov iv u:Value) (Q:Hp→Prop),Inv X pins σ H s→RelV o ov→RelV i iv→RelV v u→t o i v H Q →
  wpAny (model X.prog X.w) X.A (setItem ov iv u) (fun _ s'=>∃ H',Inv X pins σ H' s'∧Q H') X.xe s
section
variable {X:Cx} {pos:Pos}
def iS (i:Nat):TG:=fun v σ H Q=>Q (σ.set i (some v)) H
theorem wR {i:Nat} {x:Str} (hN:X.N.Nodup) (hi:X.N[i]?=some x) (hx:Loc X.env.scope x) (hf:X.fn x=true∨X.env.scope.names.lookup x=some .local:=by first | exact .inl rfl | exact .inr rfl | assumption):PG X (.Name x pos) (iS i):=by
 intro pins s σ H v u Q I r h
 exact wpAny_assign_Name (kj I hN hi hx r (fun s' I'=>⟨_,H,I',h⟩) hf)
def Bh (to ti:TE) (t:qw):TG:=fun v σ H Q=>to σ H fun o H1=>ti σ H1 fun i H2=>t o i v H2 fun H3=>Q σ H3
theorem AK {o i:Expr} {to ti:TE} {t:qw} (ho:PE X o to) (hi:PE X i ti) (hs:B5 X t)
  (ha:∀ v,assign (.Subscript o i pos) X.env v=(do
   let ov ← holding [v] (eval o X.env)
   let iv ← holding [v,ov] (eval i X.env)
   standAt pos
   holding [v,ov,iv] (setItem ov iv v)
   release [v,ov,iv] []):=by intro _; rfl):PG X (.Subscript o i pos) (Bh to ti t):=by
 intro pins s σ H v u Q I r h
 rw [ha]
 refine wpAny_bind (wpAny_holding (thn (ho pins s σ H _ I h) fun ov s1 ⟨x,H1,I1,r1,q1⟩=>?_))
 refine wpAny_bind (wpAny_holding (thn (hi pins s1 σ H1 _ I1 q1) fun iv s2 ⟨y,H2,I2,r2,q2⟩=>?_))
 refine wpAny_bind (wpAny_standAt (wpAny_bind (wpAny_holding (thn (hs pins s2 σ H2 x y v ov iv u _ I2 r1 r2 r q2) fun _ s3 ⟨H3,I3,q3⟩=>?_))))
 exact wpAny_release ⟨σ,H3,I3,q3⟩
def ki (te:TE) (g:TG):TS:=fun D σ H=>te σ H fun x H1=>g x σ H1 D.nx
theorem AI {tg e:Expr} {te:TE} {g:TG} (he:PE X e te) (hg:PG X tg g) (hs:swapsWithSole [tg] e pos.line X.env=pure false:=by rfl) (hw:swappedStores [tg] e X.env=pure none:=by rfl)
  (h1:(assignEach [tg] X.env).map (·.2)=[assign tg X.env]:=by rfl):PS X (.Assign [tg] e pos) (ki te g):=by
 intro pins s σ H D I h
 refine wpAny_Assign_stores (thn (he pins s σ H _ I h) fun v s1 ⟨x,H1,I1,r1,q1⟩=>?_) hs hw
 rw [h1]
 exact thn (hg pins s1 σ H1 x v _ I1 r1 q1) fun _ s2 q=>q
theorem AF {i:Nat} {x:Str} {e:Expr} {te:TE} {pos':Pos} (hN:X.N.Nodup) (hi:X.N[i]?=some x) (hx:Loc X.env.scope x) (he:PE X e te) (hs:swapsWith e (some (.Name x pos')) pos.line X.env=pure false:=by rfl) (hf:X.fn x=true∨X.env.scope.names.lookup x=some .local:=by first | exact .inl rfl | exact .inr rfl | assumption) :
  PS X (.Assign [.Name x pos'] e pos) (ki te (iS i)):=by
 intro pins s σ H D I h
 refine wpAny_Assign_Name (thn (he pins s σ H _ I h) fun v s1 ⟨y,H1,I1,r1,q1⟩=>?_) hs
 exact kj I1 hN hi hx r1 (fun s2 I2=>⟨_,H1,I2,q1⟩) hf
end
section
variable {X:Cx} {pos:Pos}
end
structure It where
 go:Nat→Hp→Prop
 yld:Nat→Hp→V→Hp→Prop
 stop:Nat→Hp→Prop
def eX (X:Cx) (pins:List (Addr × Obj)) (H:Hp) (b:Addr):Prop :=
 H b=none∧b≠X.env.locals∧b ∉ X.fs∧(b∈X.ex∨X.s₀.heap.objs.size≤b)∧(∀ x c,X.env.cells.lookup x=some c→c≠b)∧∀ p∈X.pn++pins,p.1≠b
theorem Inv.fpOk {X:Cx} {pins:List (Addr × Obj)} {σ:St} {H H':Hp} {s:Shared} {b:Addr} (I:Inv X pins σ H s) (hb:s.heap.objs.size≤b) (hn:H' b=none):eX X pins H' b:=by
 refine ⟨hn,Nat.ne_of_gt (Nat.lt_of_lt_of_le I.lt hb),I.nofs hb,.inr (Nat.le_trans I.sz hb),fun x c e z=>?_,fun p hp z=>?_⟩
 ·obtain ⟨v,q⟩:=I.cell x c e
  exact absurd (Nat.lt_of_lt_of_le q.lt (by rw [z]; exact hb)) (Nat.lt_irrefl _)
 ·exact absurd (Nat.lt_of_lt_of_le (Heap.lt_size (I.pin p hp).1) (by rw [z]; exact hb)) (Nat.lt_irrefl _)
structure Turn (P:Program) (w:World) (K:PySem.W.Frag) (tg:Expr) (J:It) (fp:List Addr) (it:Addr) (tn:Nat→Heap→Prop):Prop where
 mem:it∈fp
 obj:∀ i h,tn i h→∀ b∈fp,∃ o,h.get? b=some o∧∀ v,o.data≠.cell v
 keep:∀ i h h',tn i h→(∀ b∈fp,∀ o,h.get? b=some o→h'.get? b=some o)→tn i h'
 item:∀ (X:Cx),X.prog=P→X.w=w→X.K=K→X.calm=true→∀ (i:Nat) (pins:List (Addr × Obj)) (s:Shared) (σ:St) (H:Hp) (E:Value→Shared→Prop),Inv X pins σ H s→(∀ b∈fp,eX X pins H b)→tn i s.heap→J.go i H →
  wpAny (model P w) X.A (pyNext (.ref it)) (fun r s1=>∃ u,r=some u ∧
   wpAny (model P w) X.A (letOwnedTupleGo tg (.ref it) u) (fun _ s2=>∃ x H',Inv X pins σ H' s2∧RelV x u∧J.yld i H x H'∧tn (i+1) s2.heap∧∀ b∈fp,H' b=none) E s1) E s
 done:∀ (X:Cx),X.prog=P→X.w=w→X.K=K→X.calm=true→∀ (i:Nat) (pins:List (Addr × Obj)) (s:Shared) (σ:St) (H:Hp) (E:Value→Shared→Prop),Inv X pins σ H s→(∀ b∈fp,eX X pins H b)→tn i s.heap→J.stop i H →
  wpAny (model P w) X.A (pyNext (.ref it)) (fun r s1=>r=none∧Inv X pins σ H s1) E s
 self:∀ (A:Around) (i:Nat) (s:Shared) (Q:Value→Shared→Prop) (E:Value→Shared→Prop),tn i s.heap→Q (.ref it) s→wpAny (model P w) A (pyIter (.ref it)) Q E s
abbrev TI:=St→Hp→(It→Hp→Prop)→Prop
def PIE (X:Cx) (pins:List (Addr × Obj)) (σ:St) (tg:Expr) (R:It→Hp→Prop) (itv:Value) (s2:Shared):Prop :=
 ∃ (it:Addr) (fp:List Addr) (tn:Nat→Heap→Prop) (J:It) (H':Hp),itv=.ref it∧Inv X pins σ H' s2∧Turn X.prog X.w X.K tg J fp it tn∧tn 0 s2.heap∧(∀ b∈fp,eX X pins H' b)∧R J H'
def PI (X:Cx) (tg iter:Expr) (wi:TI):Prop :=
 ∀ (pins:List (Addr × Obj)) (s:Shared) (σ:St) (H:Hp) (R:It→Hp→Prop),Inv X pins σ H s→wi σ H R →
  wpAny (model X.prog X.w) X.A (eval iter X.env) (fun v s1=>wpAny (model X.prog X.w) X.A (pyIter v) (PIE X pins σ tg R) X.xe s1) X.xe s
theorem j7 {M:Model} {A:Around} {E:Value→Shared→Prop} {s:Shared} {tg:Expr} {it:Addr} {u:Value} {o:Obj} {n:String} {vs:Array Value} {Q:Unit→Shared→Prop} (ho:s.heap.get? it=some o) (hc:o.cls=.type n) (hd:o.data=.fields vs)
  (hn:["enumerate", "zip", "dict_itemiterator", "dict_reverseitemiterator", "odict_iterator", "itertools.zip_longest", "itertools.pairwise"].contains n=false) (hQ:Q () s):wpAny M A (letOwnedTupleGo tg (.ref it) u) Q E s:=by
 unfold letOwnedTupleGo
 cases tg <;> first
  | exact wpAny_pure hQ
  | (cases u <;> first
    | exact wpAny_pure hQ
    | (refine wpAny_bind (wpAny_load ho ?_)
       rw [hc,hd]
       show wpAny M A (if (["enumerate", "zip", "dict_itemiterator", "dict_reverseitemiterator", "odict_iterator", "itertools.zip_longest", "itertools.pairwise"].contains n && vs[0]? == some (rawInt _))=true then _ else _) Q E s
       rw [if_neg (by intro h; rw [hn,Bool.false_and] at h; cases h)]
       exact wpAny_pure hQ))
def Itl (K:PySem.W.Frag) (a:Addr):It :=
 ⟨fun i H=>∃ xs x,SqL K H a xs∧xs[i]?=some x,fun i H x H'=>H'=H∧∀ xs,SqL K H a xs→xs[i]?=some x,fun i H=>∃ xs,SqL K H a xs∧xs.length≤i⟩
def Itt (K:PySem.W.Frag) (a:Addr):It :=
 ⟨fun i H=>∃ xs x,SqT K H a xs∧xs[i]?=some x,fun i H x H'=>H'=H∧∀ xs,SqT K H a xs→xs[i]?=some x,fun i H=>∃ xs,SqT K H a xs∧xs.length≤i⟩
def Itr (lo:Int) (n:Nat):It:=⟨fun i _=>i < n,fun i H x H'=>H'=H∧x=.int (lo+i),fun i _=>n≤i⟩
theorem nv {P:Program} {w:World} {K:PySem.W.Frag} {tg:Expr} (a it:Addr):Turn P w K tg (Itl K a) [it] it (fun i h=>h.IsListIter it a i) where
 mem:=by simp
 obj:=fun i h st b hb=>by
  have e:b=it:=by simpa using hb
  subst e
  obtain ⟨o,e,c,d⟩:=st
  exact ⟨o,e,fun v z=>by rw [d] at z; cases z⟩
 keep:=fun i h h' st k=>st.at fun o e=>k it (by simp) o e
 item:=by
  intro X hP hw hK hc i pins s σ H E I hf st hg
  subst hP hw hK
  obtain ⟨xs,x,hq,hx⟩:=hg
  obtain ⟨its,rv,p,hz⟩:=I.list hq
  obtain ⟨u,hu,ru⟩:=rv.get hx
  obtain ⟨f0,f1,f2,f3,f4,f5⟩:=hf it (by simp)
  refine wpAny_pyNext_list_item st p.isList (x:=u) (by simpa using hu) fun h' st' sb=>?_
  have I1:Inv X pins σ H { s with heap:=h' }:=I.turned (t':=s.toks) (fun b o hb e=>(sb.2 b hb).trans e) f0 f1 f3 f4 f5
  obtain ⟨o,e,c,d⟩:=id st'
  exact ⟨u,rfl,j7 (s:={ s with heap:=h' }) e c d (by decide) ⟨x,H,I1,ru,⟨rfl,fun ys hy=>by rw [I.list_inj hy hq]; exact hx⟩,st',fun b hb=>(hf b hb).1⟩⟩
 done:=by
  intro X hP hw hK hc i pins s σ H E I hf st hg
  subst hP hw hK
  obtain ⟨xs,hq,hx⟩:=hg
  obtain ⟨its,rv,p,hz⟩:=I.list hq
  obtain ⟨f0,f1,f2,f3,f4,f5⟩:=hf it (by simp)
  have hl:=rv.length
  exact wpAny_pyNext_list_end (I.ok.hd hc) st p.isList (by simp; omega) fun h' eb=>⟨rfl,I.turned (t':=s.toks) (fun b o hb e=>eb b o hb e) f0 f1 f3 f4 f5⟩
 self:=fun _ _ _ _ _ st h=>wpAny_pyIter_listiter st h
theorem mn {P:Program} {w:World} {K:PySem.W.Frag} {tg:Expr} (a it:Addr):Turn P w K tg (Itt K a) [it] it (fun i h=>h.IsTupleIter it a i) where
 mem:=by simp
 obj:=fun i h st b hb=>by
  have e:b=it:=by simpa using hb
  subst e
  obtain ⟨o,e,c,d⟩:=st
  exact ⟨o,e,fun v z=>by rw [d] at z; cases z⟩
 keep:=fun i h h' st k=>st.at fun o e=>k it (by simp) o e
 item:=by
  intro X hP hw hK hc i pins s σ H E I hf st hg
  subst hP hw hK
  obtain ⟨xs,x,hq,hx⟩:=hg
  obtain ⟨its,rv,p,hz⟩:=I.tuple hq
  obtain ⟨u,hu,ru⟩:=rv.get hx
  obtain ⟨f0,f1,f2,f3,f4,f5⟩:=hf it (by simp)
  refine wpAny_pyNext_tuple_item st (show s.heap.IsTuple a its.toArray from p) (x:=u) (by simpa using hu) fun h' st' sb=>?_
  have I1:Inv X pins σ H { s with heap:=h' }:=I.turned (t':=s.toks) (fun b o hb e=>(sb.2 b hb).trans e) f0 f1 f3 f4 f5
  obtain ⟨o,e,c,d⟩:=id st'
  exact ⟨u,rfl,j7 (s:={ s with heap:=h' }) e c d (by decide) ⟨x,H,I1,ru,⟨rfl,fun ys hy=>by rw [I.tuple_inj hy hq]; exact hx⟩,st',fun b hb=>(hf b hb).1⟩⟩
 done:=by
  intro X hP hw hK hc i pins s σ H E I hf st hg
  subst hP hw hK
  obtain ⟨xs,hq,hx⟩:=hg
  obtain ⟨its,rv,p,hz⟩:=I.tuple hq
  obtain ⟨f0,f1,f2,f3,f4,f5⟩:=hf it (by simp)
  have hl:=rv.length
  exact wpAny_pyNext_tuple_end (I.ok.hd hc) st (show s.heap.IsTuple a its.toArray from p) (by simp; omega) fun h' eb=>⟨rfl,I.turned (t':=s.toks) (fun b o hb e=>eb b o hb e) f0 f1 f3 f4 f5⟩
 self:=fun _ _ _ _ _ st h=>wpAny_pyIter_tupleiter st h
theorem mq {P:Program} {w:World} {K:PySem.W.Frag} {tg:Expr} (it:Addr) (lo:Int) (n:Nat):Turn P w K tg (Itr lo n) [it] it (fun i h=>IsRangeIter h it (lo+(i:Nat) * 1) ((n:Int) - (i:Nat)) 1) where
 mem:=by simp
 obj:=fun i h st b hb=>by
  have e:b=it:=by simpa using hb
  subst e
  exact ⟨_,st,fun v z=>by
   have z':Data.fields _=Data.cell v:=z
   cases z'⟩
 keep:=fun i h h' st k=>k it (by simp) _ st
 item:=by
  intro X hP hw hK hc i pins s σ H E I hf st hg
  subst hP hw hK
  obtain ⟨f0,f1,f2,f3,f4,f5⟩:=hf it (by simp)
  have W:=Walks.range (prog:=X.prog) (w:=X.w) (I.ok.hd hc) it lo 1 n
  refine W.item i s _ _ hg st fun v h' tk hv st' kk=>?_
  obtain ⟨t,rfl⟩:=hv
  have I1:Inv X pins σ H { s with heap:=h',toks:=tk }:=I.turned (fun b o hb e=>kk b o (by simpa using hb) e) f0 f1 f3 f4 f5
  refine ⟨_,rfl,j7 (s:={ s with heap:=h',toks:=tk }) (n:="range_iterator") st' rfl rfl (by decide) ⟨.int (lo+i),H,I1,⟨t,?_⟩,⟨rfl,rfl⟩,st',fun b hb=>(hf b hb).1⟩⟩
  rw [Int.mul_one]
 done:=by
  intro X hP hw hK hc i pins s σ H E I hf st hg
  subst hP hw hK
  obtain ⟨f0,f1,f2,f3,f4,f5⟩:=hf it (by simp)
  exact wpAny_pyNext_range_end (I.ok.hd hc) st (by have:n≤i:=hg; omega) fun h' eb=>⟨rfl,I.turned (t':=s.toks) (fun b o hb e=>eb b o hb e) f0 f1 f3 f4 f5⟩
 self:=fun _ _ _ _ _ st h=>wpAny_pyIter_rangeiter st h
end L2
namespace L2
open PySem PySem.Spec PyProof.Rows
section
variable {X:Cx} {tg:Expr}
theorem pj {pins:List (Addr × Obj)} {σ:St} {H:Hp} {s:Shared} {R:It→Hp→Prop} {E:Value→Shared→Prop} {lo hi:Int} {t u v:Tok} {tk:Nat} (I:Inv X pins σ H s) (h1:-(2 ^ 62)≤lo) (h2:lo < 2 ^ 62) (h3:-(2 ^ 62)≤hi) (h4:hi < 2 ^ 62)
  (q:R (Itr lo (hi - lo).toNat) H):wpAny (model X.prog X.w) X.A (pyIter (.ref s.heap.objs.size)) (PIE X pins σ tg R) E { s with heap:=s.heap.push { cls:=.type "range",data:=.fields #[.int lo t,.int hi u,.int 1 v] },toks:=tk }:=by
 refine wpAny_pyIter_range (IsRange.new ..) (small_one h1 h2 h3 h4) ?_
 have I1:Inv X pins σ H { s with heap:=s.heap.push { cls:=.type "range",data:=.fields #[.int lo t,.int hi u,.int 1 v] },toks:=tk }:=I.kept fun b o e=>Heap.get?_push_of_some _ e
 refine ⟨(s.heap.push { cls:=.type "range",data:=.fields #[.int lo t,.int hi u,.int 1 v] }).objs.size,[(s.heap.push { cls:=.type "range",data:=.fields #[.int lo t,.int hi u,.int 1 v] }).objs.size],_,_,H,rfl,
  I1.kept (t':=tk) fun b o e=>Heap.get?_push_of_some _ e,mq _ lo (hi - lo).toNat,?_,fun b hb=>?_,q⟩
 ·have e1:lo+((0:Nat):Int) * 1=lo:=by simp
  have e2:(((hi - lo).toNat:Nat):Int) - ((0:Nat):Int)=Builtin.Range.rangeSize lo hi 1:=by rw [rangeSize_one]; split <;> omega
  show IsRangeIter _ _ (lo+((0:Nat):Int) * 1) ((((hi - lo).toNat:Nat):Int) - ((0:Nat):Int)) 1
  rw [e1,e2]
  exact Heap.get?_push_size _ rfl
 ·have e:b=(s.heap.push { cls:=.type "range",data:=.fields #[.int lo t,.int hi u,.int 1 v] }).objs.size:=by simpa using hb
  subst e
  exact I1.fpOk (Nat.le_refl _) (I1.hok.fresh (Nat.le_refl _))
def Cr (ta:TA):TI:=fun σ H R=>ta σ H fun vs H1=>∃ j:Int,vs=[.int j]∧-(2 ^ 62)≤j∧j < 2 ^ 62∧R (Itr 0 j.toNat) H1
theorem nI {a:Expr} {ta:TA} {p pos:Pos} (hg:Gl X "range") (hm:X.mg "range"=none) (ha:PA X [a] ta) (hs:starEach [a] X.env=[(false,eval a X.env)]:=by rfl):PI X tg (.Call (.Name "range" p) [a] [] pos) (Cr ta):=by
 intro pins s σ H R I h
 refine Call_ (iH I hg hm boot_range (PyProof.Rows.callWith_type1 (thn (ha pos pins s σ H _ I h) fun us s1 ⟨vs,H1,I1,r1,q1⟩=>?_) hs rfl))
 obtain ⟨j,e,q1,q2,q⟩:=q1
 subst e
 cases r1 with
 | cons r rr =>
  cases rr
  obtain ⟨t,rfl⟩:=r
  exact call_range_1 (pj I1 (by omega) (by omega) q1 q2 (by simpa using q))
def Am (wi:TI) (g:TG) (tb:TS):TS:=fun D σ H=>wi σ H fun J H1=>∃ W:Nat→Nat→St→Hp→Prop,(∃ m,W 0 m σ H1)∧∀ i m σ H,W i m σ H →
 (J.stop i H∧D.nx σ H)∨(J.go i H∧∃ N:St→Hp→Prop,(∀ σ' H',N σ' H'→∃ m',m' < m∧W (i+1) m' σ' H')∧∀ x H',J.yld i H x H'→g x σ H' fun σ2 H2=>tb { D with nx:=N,ct:=N,bk:=D.nx } σ2 H2)
def gg (fp:List Addr) (h:Heap):List (Addr × Obj):=fp.filterMap fun b=>(h.get? b).map fun o=>(b,o)
theorem dD {fp:List Addr} {h:Heap} {b:Addr} {o:Obj} (hb:b∈fp) (e:h.get? b=some o):(b,o)∈gg fp h:=List.mem_filterMap.mpr ⟨b,hb,by rw [e]; rfl⟩
theorem nM {fp:List Addr} {h:Heap} {p:Addr × Obj} (hp:p∈gg fp h):p.1∈fp∧h.get? p.1=some p.2:=by
 obtain ⟨b,hb,e⟩:=List.mem_filterMap.mp hp
 cases q:h.get? b with
 | none=>rw [q] at e; cases e
 | some o =>
  rw [q] at e
  have e':(b,o)=p:=Option.some.inj e
  subst e'
  exact ⟨hb,q⟩
theorem Inv.pinned {pins:List (Addr × Obj)} {σ:St} {H:Hp} {s:Shared} {fp:List Addr} (I:Inv X pins σ H s) (hf:∀ b∈fp,eX X pins H b) (ho:∀ b∈fp,∃ o,s.heap.get? b=some o∧∀ v,o.data≠.cell v):Inv X (pins++gg fp s.heap) σ H s :=
 I.pins_of fun p hp=>(List.mem_append.mp hp).elim (fun z=>I.pin p (List.mem_append_right _ z)) fun z=>by
  obtain ⟨hb,e⟩:=nM z
  obtain ⟨f0,f1,f2,_⟩:=hf p.1 hb
  obtain ⟨o,e',d⟩:=ho p.1 hb
  rw [e] at e'; cases e'
  exact ⟨e,f0,f1,f2,d⟩
theorem Inv.unpinned {pins pl:List (Addr × Obj)} {σ:St} {H:Hp} {s:Shared} (I:Inv X (pins++pl) σ H s):Inv X pins σ H s:=I.pins_of fun p hp=>I.pin p (List.mem_append_right _ (List.mem_append_left _ hp))
theorem AH {iter:Expr} {body:List Stmt} {wi:TI} {g:TG} {tb:TS} {pos:Pos} (hp:PassesOwn (model X.prog X.w) X.A X.env X.xe) (hc:X.calm=true) (hi:PI X tg iter wi) (hg:PG X tg g) (hb:PSs X body tb)
  (hs:∀ x,foldedSetIterable iter X.env x=pure x:=by intro _; rfl):PS X (.For tg iter body [] pos) (Am wi g tb):=by
 intro pins s σ H D I h
 refine wpAny_For (thn (hi pins s σ H _ I h) fun v s1 h1=>thn h1 fun itv s2 h2=>?_) hs
 obtain ⟨it,fp,tn,J,H2,e,I2,T,st2,f2,W,⟨m0,w0⟩,turn⟩:=h2
 subst e
 have stat:∀ {H':Hp},(∀ b∈fp,H' b=none)→∀ b∈fp,eX X pins H' b:=fun hn b hb=>⟨hn b hb,(f2 b hb).2⟩
 refine codeAny_forLoop_any (fun n s'=>∃ i σ' H',Inv X pins σ' H' s'∧tn i s'.heap∧(∀ b∈fp,H' b=none)∧W i n σ' H') ?_ m0 ⟨0,σ,H2,I2,st2,fun b hb=>(f2 b hb).1,w0⟩
 rintro n s3 ⟨i,σ3,H3,I3,st3,fr3,w3⟩
 rcases turn i n σ3 H3 w3 with ⟨stop,qn⟩ | ⟨go,N,hN,step⟩
 ·refine wpAny_passesOwn hp (thn (T.done X rfl rfl rfl hc i pins s3 σ3 H3 X.xe I3 (stat fr3) st3 stop) fun r s4 ⟨hr,I4⟩=>?_)
  subst hr
  exact wpAny_execs_nil ⟨σ3,H3,I4,qn⟩
 ·refine wpAny_passesOwn hp (thn (T.item X rfl rfl rfl hc i pins s3 σ3 H3 X.xe I3 (stat fr3) st3 go) fun r s4 ⟨u,hr,h4⟩=>?_)
  subst hr
  refine wpAny_passesOwn hp (thn h4 fun _ s5 ⟨x,H5,I5,r5,y5,st5,fr5⟩=>?_)
  have I5':=I5.pinned (stat fr5) (T.obj _ _ st5)
  refine wpAny_passesOwn hp (thn (hg _ s5 σ3 H5 x u _ I5' r5 (step x H5 y5)) fun _ s6 ⟨σ6,H6,I6,q6⟩=>?_)
  refine wpAny_passesOwn hp (thn (hb _ s6 σ6 H6 _ I6 q6) fun f s7 q7=>?_)
  have again:∀ {σ7:St} {H7:Hp},Inv X (pins++gg fp s5.heap) σ7 H7 s7→N σ7 H7→∃ m,m < n∧∃ i σ' H',Inv X pins σ' H' s7∧tn i s7.heap∧(∀ b∈fp,H' b=none)∧W i m σ' H':=fun {σ7 H7} I7 n7=>by
   obtain ⟨m',hm,w7⟩:=hN σ7 H7 n7
   refine ⟨m',hm,i+1,σ7,H7,I7.unpinned,T.keep _ _ _ st5 fun b hb o e=>(I7.pin (b,o) (List.mem_append_right _ (List.mem_append_right _ (dD hb e)))).1,fun b hb=>?_,w7⟩
   obtain ⟨o,e,d⟩:=T.obj _ _ st5 b hb
   exact (I7.pin (b,o) (List.mem_append_right _ (List.mem_append_right _ (dD hb e)))).2.1
  cases f with
  | next=>obtain ⟨σ7,H7,I7,n7⟩:=q7; exact again I7 n7
  | cont=>obtain ⟨σ7,H7,I7,n7⟩:=q7; exact again I7 n7
  | brk=>obtain ⟨σ7,H7,I7,q7⟩:=q7; exact ⟨σ7,H7,I7.unpinned,q7⟩
  | ret v=>obtain ⟨x7,σ7,H7,I7,r7,q7⟩:=q7; exact ⟨x7,σ7,H7,I7.unpinned,r7,q7⟩
end
end L2
namespace L2
open PySem PySem.Spec PyProof.Rows
abbrev R2:=V→V→Hp→VK→Prop
def OpR (X:Cx) (f:Value→Value→Sem Value) (r:R2):Prop :=
 ∀ (pins:List (Addr × Obj)) (s:Shared) (σ:St) (H:Hp) (x y:V) (v u:Value) (Q:VK),Inv X pins σ H s→RelV x v→RelV y u→r x y H Q →
  wpAny (model X.prog X.w) X.A (f v u) (EP X pins σ Q) X.xe s
def UnR (X:Cx) (f:Value→Sem Value) (r:V→Hp→VK→Prop):Prop :=
 ∀ (pins:List (Addr × Obj)) (s:Shared) (σ:St) (H:Hp) (x:V) (v:Value) (Q:VK),Inv X pins σ H s→RelV x v→r x H Q →
  wpAny (model X.prog X.w) X.A (f v) (EP X pins σ Q) X.xe s
def CallR (X:Cx) (f:Value) (r:List V→Hp→VK→Prop):Prop :=
 ∀ (pins:List (Addr × Obj)) (s:Shared) (σ:St) (H:Hp) (xs:List V) (us:List Value) (Q:VK),Inv X pins σ H s→Vals xs us→r xs H Q →
  wpAny (model X.prog X.w) X.A (call f us) (EP X pins σ Q) X.xe s
def Dk (X:Cx) (r:V→Hp→(Bool→Hp→Prop)→Prop):Prop :=
 ∀ (pins:List (Addr × Obj)) (s:Shared) (σ:St) (H:Hp) (x:V) (v:Value) (Q:Bool→Hp→Prop),Inv X pins σ H s→RelV x v→r x H Q →
  wpAny (model X.prog X.w) X.A (truthy v) (TP X pins σ Q) X.xe s
def tOp (r:R2) (ta tb:TE):TE:=fun σ H Q=>ta σ H fun x H1=>tb σ H1 fun y H2=>r x y H2 Q
def tUn (r:V→Hp→VK→Prop) (ta:TE):TE:=fun σ H Q=>ta σ H fun x H1=>r x H1 Q
def rI (C:Int→Int→Prop) (g:Int→Int→V):R2:=fun x y H Q=>∃ i j,x=.int i∧y=.int j∧C i j∧Q (g i j) H
def rI0 (g:Int→Int→V):R2:=fun x y H Q=>∃ i j,x=.int i∧y=.int j∧Q (g i j) H
def rU (g:Int→V):V→Hp→VK→Prop:=fun x H Q=>∃ i,x=.int i∧Q (g i) H
section
variable {X:Cx} {a b c:Expr} {ta tb tc:TE} {pos:Pos}
theorem qu (ha:PE X a ta) (hb:PE X b tb) {pins:List (Addr × Obj)} {s:Shared} {σ:St} {H:Hp} {R:V→V→Hp→Prop} (I:Inv X pins σ H s)
  (h:ta σ H fun x H1=>tb σ H1 fun y H2=>R x y H2) {Q:Value→Shared→Prop} {f:Value→Value→Sem Value}
  (hf:∀ v u s2 x y H2,Inv X pins σ H2 s2→RelV x v→RelV y u→R x y H2→wpAny (model X.prog X.w) X.A (f v u) Q X.xe s2) :
  wpAny (model X.prog X.w) X.A (eval a X.env) (fun v s₁=>wpAny (model X.prog X.w) X.A (eval b X.env) (fun u s₂=>wpAny (model X.prog X.w) X.A (f v u) Q X.xe s₂) X.xe s₁) X.xe s:=by
 refine thn (ha pins s σ H _ I h) fun v s1 ⟨x,H1,I1,r1,q1⟩=>?_
 refine thn (hb pins s1 σ H1 _ I1 q1) fun u s2 ⟨y,H2,I2,r2,q2⟩=>?_
 exact hf v u s2 x y H2 I2 r1 r2 q2
theorem Cm {op:Operator} {r:R2} (ho:OpR X (binaryOp op) r) (ha:PE X a ta) (hb:PE X b tb):PE X (.BinOp a op b pos) (tOp r ta tb):=by
 intro pins s σ H Q I h
 exact wpAny_BinOp (qu ha hb I h fun v u s2 x y H2 I2 rx ry q=>ho pins s2 σ H2 x y v u Q I2 rx ry q)
theorem Cl {op:UnaryOp} {r:V→Hp→VK→Prop} (ho:UnR X (unaryOp op) r) (ha:PE X a ta):PE X (.UnaryOp op a pos) (tUn r ta):=by
 intro pins s σ H Q I h
 exact UnaryOp_ (thn (ha pins s σ H _ I h) fun v s1 ⟨x,H1,I1,r1,q1⟩=>ho pins s1 σ H1 x v Q I1 r1 q1)
theorem opI {f:Value→Value→Sem Value} {C:Int→Int→Prop} {g:Int→Int→Int}
  (rule:∀ (i j:Int) (t u:Tok) (s:Shared) (Q:Value→Shared→Prop) (E:Value→Shared→Prop),C i j→Q (.int (g i j) s.toks) { s with toks:=s.toks+1 }→wpAny (model X.prog X.w) X.A (f (.int i t) (.int j u)) Q E s) :
  OpR X f (rI C fun i j=>.int (g i j)):=by
 intro pins s σ H x y v u Q I rx ry h
 obtain ⟨i,j,rfl,rfl,hc,q⟩:=h
 obtain ⟨t,rfl⟩:=rx
 obtain ⟨t',rfl⟩:=ry
 exact rule i j t t' s _ _ hc ⟨.int (g i j),H,I.tok _,⟨_,rfl⟩,q⟩
theorem AT {f:Value→Value→Sem Value} {g:Int→Int→Int}
  (rule:∀ (i j:Int) (t u:Tok) (s:Shared) (Q:Value→Shared→Prop) (E:Value→Shared→Prop),Q (.int (g i j) s.toks) { s with toks:=s.toks+1 }→wpAny (model X.prog X.w) X.A (f (.int i t) (.int j u)) Q E s) :
  OpR X f (rI0 fun i j=>.int (g i j)):=by
 intro pins s σ H x y v u Q I rx ry h
 obtain ⟨i,j,rfl,rfl,q⟩:=h
 obtain ⟨t,rfl⟩:=rx
 obtain ⟨t',rfl⟩:=ry
 exact rule i j t t' s _ _ ⟨.int (g i j),H,I.tok _,⟨_,rfl⟩,q⟩
theorem mE {f:Value→Value→Sem Value} {g:Int→Int→Bool}
  (rule:∀ (i j:Int) (t u:Tok) (s:Shared) (Q:Value→Shared→Prop) (E:Value→Shared→Prop),Q (.bool (g i j)) s→wpAny (model X.prog X.w) X.A (f (.int i t) (.int j u)) Q E s) :
  OpR X f (rI0 fun i j=>.bl (g i j)):=by
 intro pins s σ H x y v u Q I rx ry h
 obtain ⟨i,j,rfl,rfl,q⟩:=h
 obtain ⟨t,rfl⟩:=rx
 obtain ⟨t',rfl⟩:=ry
 exact rule i j t t' s _ _ ⟨.bl (g i j),H,I,rfl,q⟩
def fW (i j:Int):Prop:=0 < j∧j < 1073741824
def gA (i j:Int):Prop:=0≤j∧j≤1000000∧i.natAbs < 2 ^ 64
def CMul (i j:Int):Prop:=(-(2 ^ 64) < i∧i < 2 ^ 64)∨(-(2 ^ 64) < j∧j < 2 ^ 64)
theorem CMul.ok {i j:Int} (h:CMul i j):IntMulOk i j:=by
 rcases h with ⟨h1,h2⟩ | ⟨h1,h2⟩
 ·exact .of_left (intBits_le_64 h1 h2)
 ·exact .of_right (intBits_le_64 h1 h2)
theorem op_add:OpR X (binaryOp .Add) (rI0 fun i j=>.int (i+j)):=AT fun _ _ _ _ _ _ _ q=>add_int q
theorem op_sub:OpR X (binaryOp .Sub) (rI0 fun i j=>.int (i - j)):=AT fun _ _ _ _ _ _ _ q=>sub_int q
theorem op_mul:OpR X (binaryOp .Mult) (rI CMul fun i j=>.int (i * j)):=opI fun _ _ _ _ _ _ _ hc q=>mul_int q hc.ok
theorem op_fdiv:OpR X (binaryOp .FloorDiv) (rI fW fun i j=>.int (i / j)):=opI fun i j _ _ _ _ _ hc q=>by
 have h1:(0:Int) < j:=hc.1
 have h2:j < 1073741824:=hc.2
 exact floordiv_int (by omega) (by rw [Int.fdiv_eq_ediv_of_nonneg i (by omega)]; exact q) (.inl (PyProof.noPylong_small (by omega)))
theorem op_mod:OpR X (binaryOp .Mod) (rI (fun _ j=>0 < j) fun i j=>.int (i % j)):=opI fun i j _ _ _ _ _ hc q=>by
 have h1:(0:Int) < j:=hc
 exact mod_int' (by omega) (by rw [Int.fmod_eq_emod_of_nonneg i (by omega)]; exact q)
theorem op_pow:OpR X (binaryOp .Pow) (rI gA fun i j=>.int (i ^ j.toNat)):=opI fun _ _ _ _ _ _ _ hc q=>pow_int_small hc.1 hc.2.1 hc.2.2 q
theorem unI {f:Value→Sem Value} {g:Int→Int}
  (rule:∀ (i:Int) (t:Tok) (s:Shared) (Q:Value→Shared→Prop) (E:Value→Shared→Prop),Q (.int (g i) s.toks) { s with toks:=s.toks+1 }→wpAny (model X.prog X.w) X.A (f (.int i t)) Q E s) :
  UnR X f (rU fun i=>.int (g i)):=by
 intro pins s σ H x v Q I rx h
 obtain ⟨i,rfl,q⟩:=h
 obtain ⟨t,rfl⟩:=rx
 exact rule i t s _ _ ⟨.int (g i),H,I.tok _,⟨_,rfl⟩,q⟩
theorem un_neg:UnR X (unaryOp .USub) (rU fun i=>.int (-i)):=unI fun _ _ _ _ _ q=>neg_int q
end
section
variable {X:Cx} {a b c:Expr} {ta tb tc:TE} {pos:Pos}
theorem op_lt:OpR X (compareOp .Lt) (rI0 fun i j=>.bl (decide (i < j))):=mE fun _ _ _ _ _ _ _ q=>lt_int q
theorem op_le:OpR X (compareOp .LtE) (rI0 fun i j=>.bl (decide (i≤j))):=mE fun _ _ _ _ _ _ _ q=>le_int q
theorem op_gt:OpR X (compareOp .Gt) (rI0 fun i j=>.bl (decide (j < i))):=mE fun _ _ _ _ _ _ _ q=>gt_int q
theorem op_ge:OpR X (compareOp .GtE) (rI0 fun i j=>.bl (decide (j≤i))):=mE fun _ _ _ _ _ _ _ q=>ge_int q
theorem bF (b:Expr) {op:CmpOp} (h:op≠.In:=by decide) (h2:op≠.NotIn:=by decide):behindInMarks op b=false:=by
 have e1:(op == CmpOp.In)=false:=by cases op <;> first | rfl | exact absurd rfl h
 have e2:(op == CmpOp.NotIn)=false:=by cases op <;> first | rfl | exact absurd rfl h2
 cases b <;> simp [behindInMarks,e1,e2]
theorem wU {op:CmpOp} {r:R2} (ho:OpR X (compareOp op) r) (ha:PE X a ta) (hb:PE X b tb) (hm:behindInMarks op b=false):PE X (.Compare a [op] [b] pos) (tOp r ta tb):=by
 intro pins s σ H Q I h
 exact wpAny_Compare1 (qu ha hb I h fun v u s2 x y H2 I2 rx ry q=>ho pins s2 σ H2 x y v u Q I2 rx ry q) hm
def vX (t:TE):TT:=fun σ H Q=>t σ H fun x H'=>∃ k,x=.bl k∧Q k H'
theorem wK {op:CmpOp} {r:R2} (ho:OpR X (compareOp op) r) (ha:PE X a ta) (hb:PE X b tb) (hm:behindInMarks op b=false):PT X (.Compare a [op] [b] pos) (vX (tOp r ta tb)):=by
 intro pins s σ H Q I h
 refine wpAny_isTrue_Compare1 (thn (ha pins s σ H _ I h) fun v s1 ⟨x,H1,I1,r1,q1⟩=>thn (hb pins s1 σ H1 _ I1 q1) fun u s2 ⟨y,H2,I2,r2,q2⟩ =>
  thn (ho pins s2 σ H2 x y v u _ I2 r1 r2 q2) fun c s3 ⟨z,H3,I3,r3,k,e,q3⟩=>?_) hm
 subst e
 cases r3
 exact wpAny_truthy_bool ⟨H3,I3,q3⟩
def kh (r r':R2) (ta tb tc:TE):TE:=fun σ H Q=>ta σ H fun x H1=>tb σ H1 fun y H2=>r x y H2 fun z H3=>∃ k,z=.bl k ∧
 (if k=true then tc σ H3 fun w' H4=>r' y w' H4 Q else Q (.bl false) H3)
theorem pA {op op':CmpOp} {r r':R2} (ho:OpR X (compareOp op) r) (ho':OpR X (compareOp op') r') (ha:PE X a ta) (hb:PE X b tb) (hc:PE X c tc)
  (hm:lastMarks [op,op'] [b,c]=false:=by with_unfolding_all rfl):PE X (.Compare a [op,op'] [b,c] pos) (kh r r' ta tb tc):=by
 intro pins s σ H Q I h
 refine Compare_chain (thn (ha pins s σ H _ I h) fun v s1 ⟨x,H1,I1,r1,q1⟩=>chain_link (thn (hb pins s1 σ H1 _ I1 q1) fun u s2 ⟨y,H2,I2,r2,q2⟩ =>
  thn (ho pins s2 σ H2 x y v u _ I2 r1 r2 q2) fun d s3 ⟨z,H3,I3,r3,k,e,q3⟩=>?_)) hm
 subst e
 cases r3
 refine wpAny_truthy_bool ?_
 cases k with
 | false=>exact ite_ff ⟨.bl false,H3,I3,rfl,q3⟩
 | true=>exact ite_tt (chain_last (thn (hc pins s3 σ H3 _ I3 q3) fun w' s4 ⟨z',H4,I4,r4,q4⟩=>ho' pins s4 σ H4 y z' u w' Q I4 r2 r4 q4))
theorem pk {op op':CmpOp} {r r':R2} (ho:OpR X (compareOp op) r) (ho':OpR X (compareOp op') r') (ha:PE X a ta) (hb:PE X b tb) (hc:PE X c tc)
  (hm:lastMarks [op,op'] [b,c]=false:=by with_unfolding_all rfl):PT X (.Compare a [op,op'] [b,c] pos) (vX (kh r r' ta tb tc)):=by
 intro pins s σ H Q I h
 refine isTrue_chain (thn (ha pins s σ H _ I h) fun v s1 ⟨x,H1,I1,r1,q1⟩=>test_link (thn (hb pins s1 σ H1 _ I1 q1) fun u s2 ⟨y,H2,I2,r2,q2⟩ =>
  thn (ho pins s2 σ H2 x y v u _ I2 r1 r2 q2) fun d s3 ⟨z,H3,I3,r3,k,e,q3⟩=>?_)) hm
 subst e
 cases r3
 refine wpAny_truthy_bool ?_
 cases k with
 | false =>
  obtain ⟨k',e',q'⟩:=q3
  cases e'
  exact ite_ff ⟨H3,I3,q'⟩
 | true =>
  refine ite_tt (test_last (thn (hc pins s3 σ H3 _ I3 q3) fun w' s4 ⟨z',H4,I4,r4,q4⟩=>thn (ho' pins s4 σ H4 y z' u w' _ I4 r2 r4 q4) fun d' s5 ⟨z2,H5,I5,r5,k2,e2,q5⟩=>?_))
  subst e2
  cases r5
  exact wpAny_truthy_bool ⟨H5,I5,q5⟩
def Dj (K:PySem.W.Frag) (x:V) (H:Hp) (k:Bool):Prop :=
 match x with
 | .non=>k=false
 | .bl b=>k=b
 | .int i=>k=(i != 0)
 | .str y=>y.length≤sizeLine∧k=((y.length:Int) != 0)
 | .byt y=>y.size≤sizeLine∧k=((y.size:Int) != 0)
 | .ref p=>(∃ xs,SqL K H p xs∧k=!xs.isEmpty)∨(∃ xs,SqT K H p xs∧k=!xs.isEmpty)∨∃ kvs,H p=some (.dK kvs)∧k=!kvs.isEmpty
 | _=>False
theorem ff:(sizeLine:Nat) < 2 ^ 63:=by rw [sizeLine_eq]; decide
theorem mD:OpR X (binaryOp .Add) (fun x y H Q=>∃ i j,x=.str i∧y=.str j∧i.length+j.length≤sizeLine∧Q (.str (i++j)) H):=by
 intro pins s σ H x y v u Q I rx ry h
 obtain ⟨i,j,rfl,rfl,hz,q⟩:=h
 obtain ⟨t,rfl⟩:=rx
 obtain ⟨t',rfl⟩:=ry
 exact add_str (fun t' tk=>⟨.str (i++j),H,I.tok _,⟨_,rfl⟩,q⟩) hz
theorem bJ {x:V} {us:List Value} (r:Vals [x] us):∃ u,us=[u]∧RelV x u:=by
 cases r with
 | cons r1 r2=>cases r2; exact ⟨_,rfl,r1⟩
theorem vW {x y:V} {us:List Value} (r:Vals [x,y] us):∃ u w',us=[u,w']∧RelV x u∧RelV y w':=by
 cases r with
 | cons r1 r2 =>
  cases r2 with
  | cons r3 r4=>cases r4; exact ⟨_,_,rfl,r1,r3⟩
theorem call_abs:CallR X (.builtin "abs") (fun xs H Q=>∃ i,xs=[.int i]∧Q (.int (if i < 0 then -i else i)) H):=by
 intro pins s σ H xs us Q I r h
 obtain ⟨i,rfl,q⟩:=h
 obtain ⟨u,rfl,t,rfl⟩:=bJ r
 exact call_abs_int fun u tk=>⟨.int (if i < 0 then -i else i),H,I.tok _,⟨_,rfl⟩,q⟩
theorem oR (hc:X.calm=true):CallR X (.builtin "min") (fun xs H Q=>∃ i j,xs=[.int i,.int j]∧Q (.int (if j < i then j else i)) H):=by
 intro pins s σ H xs us Q I r h
 obtain ⟨i,j,rfl,q⟩:=h
 obtain ⟨u,w',rfl,⟨t,rfl⟩,⟨t',rfl⟩⟩:=vW r
 refine min_two_ints (I.ok.hd hc) fun h' tk k=>⟨_,H,I.kept k,?_,q⟩
 by_cases hj:j < i
 ·rw [if_pos hj,if_pos hj]; exact ⟨_,rfl⟩
 ·rw [if_neg hj,if_neg hj]; exact ⟨_,rfl⟩
def B7 (K:PySem.W.Frag) (x:V) (H:Hp) (n:Nat):Prop :=
 match x with
 | .str y=>y.length≤sizeLine∧n=y.length
 | .byt y=>y.size≤sizeLine∧n=y.size
 | .ref p=>(∃ xs,SqL K H p xs∧n=xs.length)∨∃ xs,SqT K H p xs∧n=xs.length
 | _=>False
theorem qo:CallR X (.builtin "len") (fun xs H Q=>∃ x n,xs=[x]∧B7 X.K x H n∧Q (.int n) H):=by
 intro pins s σ H xs us Q I r h
 obtain ⟨x,n,rfl,e,q⟩:=h
 obtain ⟨u,rfl,rx⟩:=bJ r
 have hl:=ff
 have hs:sizeLine=16777216:=sizeLine_eq
 cases x with
 | str y =>
  obtain ⟨t,rfl⟩:=rx
  obtain ⟨hy,e'⟩:y.length≤sizeLine∧n=y.length:=e
  subst e'
  exact len_str (by omega) ⟨.int _,H,I.tok _,⟨_,rfl⟩,q⟩
 | byt y =>
  obtain ⟨t,rfl⟩:=rx
  obtain ⟨hy,e'⟩:y.size≤sizeLine∧n=y.size:=e
  subst e'
  exact PySem.W.len_bytes (by omega) ⟨.int _,H,I.tok _,⟨_,rfl⟩,q⟩
 | ref p =>
  cases rx
  have e':(∃ xs,SqL X.K H p xs∧n=xs.length)∨∃ xs,SqT X.K H p xs∧n=xs.length:=e
  rcases e' with ⟨xs,hx,e'⟩ | ⟨xs,hx,e'⟩
  ·subst e'
   obtain ⟨its,r',pl,hz⟩:=I.list hx
   have hlen:=r'.length
   exact Calls.call_len_list pl.isList (by simp only [List.size_toArray]; omega) ⟨.int xs.length,H,I.tok _,⟨_,by simp only [List.size_toArray]; rw [hlen]⟩,q⟩
  ·subst e'
   obtain ⟨its,r',pl,hz⟩:=I.tuple hx
   have hlen:=r'.length
   exact len_tuple pl (by simp only [List.size_toArray]; omega) ⟨.int xs.length,H,I.tok _,⟨_,by simp only [List.size_toArray]; rw [hlen]⟩,q⟩
 | _=>exact (show False from e).elim
end
end L2
namespace L2
open PySem PySem.Spec PyProof.Rows
structure ObjM (h:Heap) (x dx C:Addr) (mA:Str→Option Value):Prop where
 obj:h.get? x=some (PySem.W.instObj C dx)
 ns:h.Ns1 dx mA
 ne:dx≠x
theorem nQ {h:Heap} {dx:Addr} {mA:Str→Option Value} (n:h.Ns1 dx mA):∃ od,h.get? dx=some od∧∀ name,PySem.W.lookIn name od=some (mA name):=by
 obtain ⟨o,es,ep,ho,hd,hk,_,hm⟩:=n
 refine ⟨o,ho,fun name=>?_⟩
 have e:=hm name
 unfold nsFind findBy at e
 rw [← Array.find?_toList] at e
 unfold PySem.W.lookIn
 rw [hd]
 dsimp only
 split
 ·rename_i y q
  rw [q] at e
  exact congrArg some e
 ·rename_i q
  rw [q] at e
  have a:es.toList.any (·.refKey)=false:=by
   rw [List.any_eq_false]
   intro y hy
   obtain ⟨z,t,hkey⟩:=hk y (Array.mem_toList_iff.mp hy)
   simp [DictEntry.refKey,hkey]
  have a':¬ es.toList.any (·.refKey)=true:=by rw [a]; exact Bool.false_ne_true
  rw [if_neg a']
  exact congrArg some e
theorem ObjM.look {h:Heap} {x dx C:Addr} {mA:Str→Option Value} (I:ObjM h x dx C mA):∃ od,PySem.W.InstAt h x (PySem.W.instObj C dx) C (some od)∧∀ name,PySem.W.lookIn name od=some (mA name) :=
 let ⟨od,ho,hl⟩:=nQ I.ns
 ⟨od,⟨I.obj,rfl,rfl,ho⟩,hl⟩
section
variable {prog:Program} {w:World} {A:Around} {E:Value→Shared→Prop} {s:Shared} {K:PySem.W.Frag} {x dx C f:Addr} {mA:Str→Option Value} {name:Str} {v:Value}
end
section
variable {P:Program} {w:World} {H H':Hp} {h h':Heap} {a C dx:Addr} {fs fs':List (Str × V)}
theorem xf (hok:HOk P w H h) (e:H a=some (.ins C dx fs)):∃ mA,ObjM h a dx C mA∧(∀ f,RelO (fs.lookup f) (mA f))∧PySem.Within mA (fs.map (·.1))∧fs.length≤1000∧H dx=some (.own a):=by
 obtain ⟨d,z,ne,ob,mA,n,r,q⟩:=(show ObjOk P w H h a (.ins C dx fs) from hok a _ e)
 exact ⟨mA,⟨ob,n,ne⟩,r,q,z,d⟩
end
structure Cls (K:PySem.W.Frag) (C:Addr):Prop where
 pg:PySem.W.plainGet K C Str.empty=true
 hd:PySem.W.hasDictIn K C=true
 po:PySem.W.plainOver K C=true
 sa:PySem.W.findIn K (.ref C) "__setattr__"=some (some (.builtin "object.__setattr__"))
theorem Cls.get {K:PySem.W.Frag} {C:Addr} (c:Cls K C) (f:Str):PySem.W.plainGet K C f=true:=c.pg
section
variable {X:Cx} {pins:List (Addr × Obj)} {σ:St} {H:Hp} {s:Shared} {a C dx:Addr} {fs:List (Str × V)} {f:Str} {v:V} {A:Around} {E:Value→Shared→Prop}
end
section
variable {X:Cx} {o e value:Expr} {f:Str} {pos pos' tpos:Pos} {ta tv:TE}
end
section
variable {X:Cx} {pins:List (Addr × Obj)} {σ:St} {H:Hp} {s:Shared} {A:Around} {E:Value→Shared→Prop} {Q:Value→Shared→Prop} {c:Value} {b:Bool}
inductive TyOf (K:PySem.W.Frag) (H:Hp):V→Value→Prop where
 | non:TyOf K H .non (.type "NoneType")
 | bl (x:Bool):TyOf K H (.bl x) (.type "bool")
 | int (i:Int):TyOf K H (.int i) (.type "int")
 | str (x:Str):TyOf K H (.str x) (.type "str")
 | flt (x:UInt64):TyOf K H (.flt x) (.type "float")
 | lst {a:Addr} {xs:List V} (e:H a=some (.lst xs)):TyOf K H (.ref a) (.type "list")
 | frz {a:Addr} {o:Obj} {xs:List V} (e:H a=some (.frz o (.lst xs))):TyOf K H (.ref a) (.type "list")
 | tup {a:Addr} {xs:List V} (e:H a=some (.tup xs)):TyOf K H (.ref a) (.type "tuple")
 | dK {a:Addr} {kvs:List (Key × V)} (e:H a=some (.dK kvs)):TyOf K H (.ref a) (.type "dict")
 | dT {a:Addr} {kvs:List (List Key × V)} (e:H a=some (.dT kvs)):TyOf K H (.ref a) (.type "dict")
 | ins {a C dx:Addr} {fs:List (Str × V)} (e:H a=some (.ins C dx fs)) (cl:Cls K C) (ha:PySem.W.findIn K (.ref C) "__class__"=some (some (.builtin "object.__class__")))
   (hn:PySem.W.specialIn K (.builtin "object.__class__") "__get__"=some (some (.builtin "getset_descriptor.__get__"))) (htk:PySem.W.takesIn K (.builtin "object.__class__")=some true)
   (hm:PySem.W.mroIn K C (.type "object")=some true):TyOf K H (.ref a) (.ref C)
theorem n9 {x:V} {u t:Value} (I:Inv X pins σ H s) (rx:RelV x u) (ty:TyOf X.K H x t) (e:PySem.W.kitOne X.K t c=some b) (h:∀ tk,Q (.bool b) { s with toks:=tk }) :
  wpAny (model X.prog X.w) A (call (.builtin "isinstance") [u,c]) Q E s:=by
 cases ty with
 | non=>cases (show u=Value.none from rx); exact PySem.W.kia_one PySem.W.kitx_none I.kIn True.intro e (fun z=>nomatch z) h
 | bl y=>cases (show u=Value.bool y from rx); exact PySem.W.kia_one PySem.W.kitx_bool I.kIn True.intro e (fun z=>nomatch z) h
 | int i=>obtain ⟨t,q⟩:=(show ∃ t,u=Value.int i t from rx); cases q; exact PySem.W.kia_one PySem.W.kitx_int I.kIn True.intro e (fun z=>nomatch z) h
 | str y=>obtain ⟨t,q⟩:=(show ∃ t,u=Value.str y t from rx); cases q; exact PySem.W.kia_one PySem.W.kitx_str I.kIn True.intro e (fun z=>nomatch z) h
 | flt y=>obtain ⟨t,q⟩:=(show ∃ t,u=Value.float y t from rx); cases q; exact PySem.W.kia_one PySem.W.kitx_float I.kIn True.intro e (fun z=>nomatch z) h
 | @lst a xs ea =>
  cases (show u=Value.ref a from rx)
  obtain ⟨_,_,n,_,h1⟩:=(show ObjOk X.prog X.w H s.heap a (.lst xs) from I.hok a _ ea)
  exact PySem.W.kia_one PySem.W.kitx_list I.kIn ⟨_,h1,rfl⟩ e (fun z=>nomatch z) h
 | @frz a ob xs ea =>
  cases (show u=Value.ref a from rx)
  obtain ⟨_,_,_,n,_,h1⟩:=(show ObjOk X.prog X.w H s.heap a (.frz ob (.lst xs)) from I.hok a _ ea)
  exact PySem.W.kia_one PySem.W.kitx_list I.kIn ⟨_,h1,rfl⟩ e (fun z=>nomatch z) h
 | @tup a xs ea =>
  cases (show u=Value.ref a from rx)
  obtain ⟨_,_,_,p⟩:=(show ObjOk X.prog X.w H s.heap a (.tup xs) from I.hok a _ ea)
  obtain ⟨o,h1,h2,_⟩:=p
  exact PySem.W.kia_one PySem.W.kitx_tuple I.kIn ⟨o,h1,h2⟩ e (fun z=>nomatch z) h
 | @dK a kvs ea =>
  cases (show u=Value.ref a from rx)
  obtain ⟨_,_,vs,_,p⟩:=(show ObjOk X.prog X.w H s.heap a (.dK kvs) from I.hok a _ ea)
  obtain ⟨o,es,ep,h1,h2,_⟩:=p
  exact PySem.W.kia_one PySem.W.kitx_dict I.kIn ⟨o,h1,h2.1⟩ e (fun z=>nomatch z) h
 | @dT a kvs ea =>
  cases (show u=Value.ref a from rx)
  obtain ⟨_,_,xs,_,o,es,ep,h1,h2,_⟩:=(show ObjOk X.prog X.w H s.heap a (.dT kvs) from I.hok a _ ea)
  exact PySem.W.kia_one PySem.W.kitx_dict I.kIn ⟨o,h1,h2.1⟩ e (fun z=>nomatch z) h
 | @ins a C dx fs ea cl ha hn htk hm =>
  cases (show u=Value.ref a from rx)
  obtain ⟨mA,O,_⟩:=xf I.hok ea
  obtain ⟨od,J,_⟩:=O.look
  exact PySem.W.kia_one (PySem.W.kitx_own (cl.get _) cl.hd ha hn htk hm) I.kIn J e (fun z=>nomatch z) h
end
end L2
namespace L2
open PySem PySem.Spec PyProof.Rows
structure Room (k:Nat) (A:Around):Prop where
 hd:A.handled=none
 dp:A.depth+3 * k+5 < recursionLimit
 un:A.units+16 * k+200 < cLine
 gd:A.guards=some []
theorem Room.mono {j k:Nat} {A:Around} (r:Room k A) (h:j≤k):Room j A:=⟨r.hd,by have:=r.dp; omega,by have:=r.un; omega,r.gd⟩
theorem Room.deeper {k:Nat} {A:Around} (r:Room (k+1) A) (env:Env):Room k (A.deeper env) :=
 ⟨r.hd,by have:=r.dp; show A.depth+1+3 * k+5 < _; omega,by have:=r.un; show A.units+3+16 * k+200 < _; omega,r.gd⟩
theorem Room.depth {k:Nat} {A:Around} (r:Room k A):A.depth < recursionLimit:=by have:=r.dp; omega
theorem Room.units {k:Nat} {A:Around} (r:Room k A):A.units+64 < cLine:=by have:=r.un; omega
def jk:TA:=fun _ H Q=>Q [] H
def ix (ta:TE) (tr:TA):TA:=fun σ H Q=>ta σ H fun x H1=>tr σ H1 fun xs H2=>Q (x :: xs) H2
section
variable {X:Cx} {e:Expr} {es:List Expr} {te:TE} {t:TA} {pos:Pos}
theorem pa_nil:PA X [] jk:=fun _ _ _ _ H Q I h=>Calls.spliced_nil ⟨[],H,I,.nil,h⟩
theorem cN (ha:PE X e te) (hr:PA X es t) (hs:starEach (e :: es) X.env=(false,eval e X.env) :: starEach es X.env:=by rfl):PA X (e :: es) (ix te t):=by
 intro pos pins s σ H Q I h
 rw [hs]
 show wpAny _ _ (spliced ((false,eval e X.env) :: backTo pos (starEach es X.env))) _ _ s
 refine Calls.spliced_cons (thn (ha pins s σ H _ I h) fun u s1 ⟨x,H1,I1,r1,q1⟩=>?_)
 exact thn (hr pos pins s1 σ H1 _ I1 q1) fun us s2 ⟨xs,H2,I2,r2,q2⟩=>⟨x :: xs,H2,I2,.cons r1 r2,q2⟩
def Ag (t:TA):TE:=fun σ H Q=>t σ H fun xs H1=>xs.length≤sizeLine∧∀ p,H1 p=none→Q (.ref p) (upd H1 p (.tup xs))
def Ak (t:TA):TE:=fun σ H Q=>t σ H fun xs H1=>xs.length≤sizeLine∧∀ p,H1 p=none→Q (.ref p) (upd H1 p (.lst xs))
theorem AL {x1} (h:PA X es t):PE X (.Tuple es x1 pos) (Ag t):=by
 intro pins s σ H Q I hq
 refine wpAny_Tuple_spliced (thn (h pos pins s σ H _ I hq) fun us s1 ⟨xs,H1,I1,r,z,q⟩=>⟨by rw [← r.length]; exact z,?_⟩)
 have hf:H1 s1.heap.objs.size=none:=I1.hok.fresh (Nat.le_refl _)
 refine ⟨.ref s1.heap.objs.size,upd H1 s1.heap.objs.size (.tup xs),I1.laid (t':=s1.toks) (fun b u e=>Heap.get?_push_of_some _ e) (Nat.le_refl _) ?_,rfl,q _ hf⟩
 exact ⟨z,us,r,⟨_,Heap.get?_push_size _ rfl,rfl,_,rfl,rfl⟩⟩
theorem AN (h:PA X es t):PE X (.List es pos) (Ak t):=by
 intro pins s σ H Q I hq
 refine wpAny_List_spliced (thn (h pos pins s σ H _ I hq) fun us s1 ⟨xs,H1,I1,r,z,q⟩=>⟨by rw [← r.length]; exact z,?_⟩)
 have hf:H1 s1.heap.objs.size=none:=I1.hok.fresh (Nat.le_refl _)
 refine ⟨.ref s1.heap.objs.size,upd H1 s1.heap.objs.size (.lst xs),I1.laid (t':=s1.toks) (fun b u e=>Heap.get?_push_of_some _ e) (Nat.le_refl _) ?_,rfl,q _ hf⟩
 exact ⟨z,us,0,r,Heap.get?_push_size _ rfl⟩
end
abbrev Sp:=List V→Hp→VK→XK→Prop
abbrev CXT:=List Env→Hp→Shared→XK→Value→Shared→Prop
structure Env0 (P:Program) (w:World) (K:PySem.W.Frag) (mg:Str→Option Value) (base:Heap) (A:Around) (outer:List Env) (s:Shared) (H:Hp):Prop where
 frames:A.frames=some outer
 mod:Mod K mg base
 bs:∀ b o,base.get? b=some o→s.heap.get? b=some o∧H b=none
 bsz:base.objs.size≤s.heap.objs.size
 funs:s.heap.FunFrames base outer
 frf:∀ b∈frs outer,H b=none
 hok:HOk P w H s.heap
 bare:AllBare s.gens
def CE (outer:List Env) (P:Program) (w:World) (H:Hp) (s:Shared) (Q:VK) (u:Value) (s':Shared):Prop :=
 ∃ v H',s'.os=s.os∧AllBare s'.gens∧Un (frs outer) [] H H' s.heap s'.heap∧HOk P w H' s'.heap∧RelV v u∧Q v H'
def CR (CX:CXT) (outer:List Env) (P:Program) (w:World) (H:Hp) (s:Shared) (Q:VK) (E:XK) (r:Result) (s':Shared):Prop :=
 match r with
 | .ok (.ret u)=>CE outer P w H s Q u s'
 | .ok _=>False
 | .error e=>CX outer H s E e s'
structure FnOk (P:Program) (w:World) (K:PySem.W.Frag) (mg:Str→Option Value) (base:Heap) (CX:CXT) (k:Nat) (f:Addr) (fd:FuncData) (ps:List Str) (sp:Sp):Prop where
 len:∀ vs H Q E,sp vs H Q E→vs.length=ps.length
 run:∀ (A:Around) (outer:List Env) (s:Shared) (H:Hp) (args:Args) (us:List Value) (vs:List V) (Q:VK) (E:XK),Room k A→Env0 P w K mg base A outer s H→BindsTo s fd args (ps.zip us)→Vals vs us→sp vs H Q E →
  codeAny (model P w) A (.call (.ref f) args) (CR CX outer P w H s Q E) s
theorem FnOk.mono {P:Program} {w:World} {K:PySem.W.Frag} {mg:Str→Option Value} {base:Heap} {CX:CXT} {j k:Nat} {f:Addr} {fd:FuncData} {ps:List Str} {sp:Sp} (F:FnOk P w K mg base CX j f fd ps sp) (h:j≤k) :
  FnOk P w K mg base CX k f fd ps sp:=⟨F.len,fun A outer s H args us vs Q E hr=>F.run A outer s H args us vs Q E (hr.mono h)⟩
theorem FnOk.imp {P:Program} {w:World} {K:PySem.W.Frag} {mg:Str→Option Value} {base:Heap} {CX:CXT} {k:Nat} {f:Addr} {fd:FuncData} {ps:List Str} {sp sp':Sp} (F:FnOk P w K mg base CX k f fd ps sp)
  (h:∀ vs H Q E,sp' vs H Q E→sp vs H Q E):FnOk P w K mg base CX k f fd ps sp' :=
 ⟨fun vs H Q E q=>F.len vs H Q E (h _ _ _ _ q),fun A outer s H args us vs Q E hr he hb hv hs=>F.run A outer s H args us vs Q E hr he hb hv (h _ _ _ _ hs)⟩
section
variable {X:Cx} {pins:List (Addr × Obj)} {σ:St} {H:Hp} {s s':Shared}
theorem Inv.env0 (I:Inv X pins σ H s):Env0 X.prog X.w X.K X.mg X.base X.A X.stack s H :=
 ⟨I.ok.frames,I.ok.mod,I.bs,Nat.le_trans I.ok.bsz I.sz,I.stack,I.stkFree,I.hok,I.bare⟩
theorem Inv.after {Q:VK} {u:Value} (I:Inv X pins σ H s) (h:CE X.stack X.prog X.w H s Q u s'):EP X pins σ Q u s':=by
 obtain ⟨v,H',os,bare,un,hok,r,q⟩:=h
 obtain ⟨hh,g,d,t,os'⟩:=s'
 obtain rfl:os'=s.os:=os
 exact ⟨v,H',I.call (h':=hh) (g':=g) (d':=d) (t':=t) (ch:=[]) un hok bare (fun b z=>absurd z (by simp)),r,q⟩
end
def iy (sp:Sp) (dvs:List V) (E:XK) (t:TA):TE:=fun σ H Q=>t σ H fun vs H1=>sp (vs++dvs) H1 Q E
def Binds (K:PySem.W.Frag) (fd:FuncData) (ps:List Str) (ds:List Value):Prop :=
 ∀ (s:Shared) (us:List Value),K.In s.heap→(us++ds).length=ps.length→BindsTo s fd ⟨us,[]⟩ (ps.zip (us++ds))
theorem Binds.all {K:PySem.W.Frag} {fd:FuncData} {ps:List Str} (h:∀ us:List Value,us.length=ps.length→bindArgs fd ⟨us,[]⟩=pure (ps.zip us)):Binds K fd ps []:=fun s us _ hl=>by
 rw [List.append_nil] at hl ⊢
 exact .of_eq (h us hl)
def jb (CX:CXT) (X:Cx) (E:XK):Prop:=∀ (pins:List (Addr × Obj)) (σ:St) (H:Hp) (s:Shared) (e:Value) (s':Shared),Inv X pins σ H s→CX X.stack H s E e s'→X.xe e s'
section
variable {X:Cx} {CX:CXT} {k:Nat} {f C:Addr} {fd:FuncData} {ps:List Str} {sp:Sp} {dvs:List V} {ds:List Value} {E:XK} {x m:Str} {p pos apos:Pos} {e o:Expr} {es:List Expr} {ta:TE} {t:TA}
theorem nC {pins:List (Addr × Obj)} {σ:St} {H:Hp} {s:Shared} {Q:VK} {us:List Value} {vs:List V} (F:FnOk X.prog X.w X.K X.mg X.base CX k f fd ps sp) (hr:Room k X.A) (hb:Binds X.K fd ps ds) (hd:Vals dvs ds) (hx:jb CX X E)
  (I:Inv X pins σ H s) (r:Vals vs us) (h:sp (vs++dvs) H Q E):wpAny (model X.prog X.w) X.A (call (.ref f) us) (EP X pins σ Q) X.xe s:=by
 have r2:Vals (vs++dvs) (us++ds):=r.append hd
 have hl:(us++ds).length=ps.length:=by rw [← r2.length]; exact F.len _ _ _ _ h
 refine wpAny_call (codeAny_mono (F.run X.A X.stack s H ⟨us,[]⟩ (us++ds) (vs++dvs) Q E hr I.env0 (hb s us I.kIn hl) r2 h) fun r s' hq=>?_)
 cases r with
 | error e=>exact hx pins σ H s e s' I hq
 | ok fl =>
  cases fl with
  | ret u=>exact I.after hq
  | next=>exact False.elim hq
  | brk=>exact False.elim hq
  | cont=>exact False.elim hq
theorem wV (F:FnOk X.prog X.w X.K X.mg X.base CX k f fd ps sp) (hr:Room k X.A) (hg:Gl X x) (hm:X.mg x=some (.ref f)) (hk:PySem.W.keepIn X.K (.ref f)=true) (hb:Binds X.K fd ps ds) (hd:Vals dvs ds) (hx:jb CX X E)
  (ha:PA X (e :: es) t) (hdb:(x == ("__debug__" : Str))=false:=by decide) (he:starEach (e :: es) X.env=(false,eval e X.env) :: starEach es X.env:=by rfl) (hpl:(backTo pos (starEach es X.env)).any (·.1)=false:=by rfl) :
  PE X (.Call (.Name x p) (e :: es) [] pos) (iy sp dvs E t):=by
 intro pins s σ H Q I h
 refine wpAny_Call_Name_kw (jn I hg hm ?_ hdb)
 refine PySem.W.callWith_K (h₀:=X.base) I.ok.mod.kin hk (thn (ha pos pins s σ H _ I h) fun us s1 ⟨vs,H1,I1,r,q⟩=>⟨I1.kIn,?_⟩) he hpl
 exact nC F hr hb hd hx I1 r q
theorem pB (F:FnOk X.prog X.w X.K X.mg X.base CX k f fd ps sp) (hr:Room k X.A) (hg:Gl X x) (hm:X.mg x=some (.ref f)) (hk:PySem.W.keepIn X.K (.ref f)=true) (hb:Binds X.K fd ps ds) (hd:Vals dvs ds) (hx:jb CX X E)
  (hdb:(x == ("__debug__" : Str))=false:=by decide):PE X (.Call (.Name x p) [] [] pos) (iy sp dvs E jk):=by
 intro pins s σ H Q I h
 refine wpAny_Call_Name_kw (jn I hg hm ?_ hdb)
 exact PySem.W.callWith_K0 I.kIn hk (nC (us:=[]) F hr hb hd hx I .nil h)
end
section
variable {X:Cx} {CX:CXT} {k:Nat} {f C:Addr} {fd:FuncData} {ps ks:List Str} {sp:Sp} {E:XK} {x m:Str} {p pos apos kpos:Pos} {e o:Expr} {es:List Expr} {kws:List Keyword} {te ta:TE} {t tk:TA} {nm:Option Str}
variable {g:List Value→List Value→List Value} {gV:List V→List V→List V}
end
structure FnScope (N P:List Str) (sc:Scope):Prop where
 kind:sc.kind=.function
 co:sc.isCoroutine=false
 gen:sc.isGenerator=false
 nd:N.Nodup
 pre:N.take P.length=P
 par:∀ x∈P,sc.names.lookup x=some .local∨sc.names.lookup x=some .cell
 nofree:∀ y∈sc.names,y.2≠.free
theorem jL {kindOf:Str→Option NameKind} {x:Str}:∀ {binds:List (Str × Value)} {m:Str→Option Value},(∀ v,(x,v) ∉ binds)→bindL kindOf binds m x=m x
 | [],_,_=>rfl
 | (n,v) :: r,m,h=>by
  unfold bindL
  rw [jL fun w hw=>h w (List.mem_cons_of_mem _ hw)]
  split
  ·have:x≠n:=by rintro rfl; exact h v List.mem_cons_self
   simp [this]
  ·rfl
theorem jN {kindOf:Str→Option NameKind} {x:Str}:∀ {binds:List (Str × Value)} {m:Str→Option Value},(∀ v,(x,v) ∉ binds)→bindC kindOf binds m x=m x
 | [],_,_=>rfl
 | (n,v) :: r,m,h=>by
  unfold bindC
  rw [jN fun w hw=>h w (List.mem_cons_of_mem _ hw)]
  split
  ·rfl
  ·have:x≠n:=by rintro rfl; exact h v List.mem_cons_self
   simp [this]
theorem jM {kindOf:Str→Option NameKind} {x:Str} {v:Value}:∀ {P:List Str} {vs:List Value} {i:Nat} {m:Str→Option Value},P.Nodup→P[i]?=some x→vs[i]?=some v→kindOf x=some .local →
  bindL kindOf (P.zip vs) m x=some v
 | [],_,_,_,_,h,_,_=>by simp at h
 | _ :: _,[],_,_,_,_,h,_=>by simp at h
 | p :: P,w :: vs,0,m,nd,h1,h2,hk=>by
  simp at h1 h2; subst h1; subst h2
  show bindL kindOf ((p,w) :: P.zip vs) m p=_
  unfold bindL
  rw [jL fun v hv=>(List.nodup_cons.mp nd).1 (List.of_mem_zip hv).1,if_pos hk]
  simp
 | p :: P,w :: vs,i+1,m,nd,h1,h2,hk=>by
  show bindL kindOf ((p,w) :: P.zip vs) m x=_
  unfold bindL
  exact jM (i:=i) (List.nodup_cons.mp nd).2 (by simpa using h1) (by simpa using h2) hk
theorem jO {kindOf:Str→Option NameKind} {x:Str} {v:Value}:∀ {P:List Str} {vs:List Value} {i:Nat} {m:Str→Option Value},P.Nodup→P[i]?=some x→vs[i]?=some v→kindOf x≠some .local →
  bindC kindOf (P.zip vs) m x=some v
 | [],_,_,_,_,h,_,_=>by simp at h
 | _ :: _,[],_,_,_,_,h,_=>by simp at h
 | p :: P,w :: vs,0,m,nd,h1,h2,hk=>by
  simp at h1 h2; subst h1; subst h2
  show bindC kindOf ((p,w) :: P.zip vs) m p=_
  unfold bindC
  rw [jN fun v hv=>(List.nodup_cons.mp nd).1 (List.of_mem_zip hv).1,if_neg hk]
  simp
 | p :: P,w :: vs,i+1,m,nd,h1,h2,hk=>by
  show bindC kindOf ((p,w) :: P.zip vs) m x=_
  unfold bindC
  exact jO (i:=i) (List.nodup_cons.mp nd).2 (by simpa using h1) (by simpa using h2) hk
def cf (N:List Str) (vs:List V):St:=vs.map some++List.replicate (N.length - vs.length) none
def ig (CX:CXT) (P:Program) (w:World) (K:PySem.W.Frag) (mg:Str→Option Value) (base:Heap) (N:List Str) (qual:Str) (scope:Scope) (f:Addr) (cd:Value) (A:Around) (outer:List Env) (s:Shared) (H:Hp) (E:XK):Cx where
 prog:=P
 w:=w
 K:=K
 mg:=mg
 base:=base
 A:=A.deeper (envOfC qual scope s.heap.objs.size f cd)
 N:=N
 s₀:=s
 H₀:=H
 env:=envOfC qual scope s.heap.objs.size f cd
 outer:=outer
 stack:=envOfC qual scope s.heap.objs.size f cd :: outer
 ex:=[]
 calm:=true
 fn:=fun _=>true
 pn:=[]
 xe:=fun e s'=>wpAny (model P w) (A.deeper (envOfC qual scope s.heap.objs.size f cd)) (leaving (envOfC qual scope s.heap.objs.size f cd) e) (fun _ s''=>CX outer H s E e s'') (fun e' s''=>CX outer H s E e' s'') s'
theorem la {sc:Scope} {n:Nat} {x:Str} (h:sc.names.lookup x=some .cell):∃ c,(cellsFrom n sc.names []).lookup x=some c:=by
 have q:=PySem.W.cellsFrom_some sc.names n [] (.inl h)
 exact Option.isSome_iff_exists.mp q
theorem oe {CX:CXT} {P:Program} {w:World} {K:PySem.W.Frag} {mg:Str→Option Value} {base:Heap} {N ps:List Str} {qual:Str} {scope:Scope} {f:Addr} {cd:Value} {A:Around} {outer:List Env} {s s1:Shared} {H:Hp} {E:XK} {us:List Value} {vs:List V}
  (S:FnScope N ps scope) (hd:A.handled=none) (e0:Env0 P w K mg base A outer s H) (hl:vs.length=ps.length) (r:Vals vs us)
  (x:InCallC s s.heap.objs.size (bindL (envOfC qual scope s.heap.objs.size f cd).kindOf (ps.zip us) fun _=>none) (cellsFrom (s.heap.objs.size+1) scope.names []) (bindC (envOfC qual scope s.heap.objs.size f cd).kindOf (ps.zip us) fun _=>none) s1) :
  Inv (ig CX P w K mg base N qual scope f cd A outer s H E) [] (cf N vs) H s1:=by
 have hpl:ps.length≤N.length:=by have:=congrArg List.length S.pre; rw [List.length_take] at this; omega
 obtain ⟨h1,tk,rfl,hk⟩:=x.done
 have noA:∀ b:Addr,b ∉ (ig CX P w K mg base N qual scope f cd A outer s H E).ex:=fun b z=>absurd (show b∈([]:List Addr) from z) (by simp)
 refine ⟨⟨e0.mod,S.kind,rfl,rfl,Nat.le_refl _,fun y z c h1 h2=>?_,fun y hy=>?_,fun y c _ h=>?_,fun _=>hd,Around.frames_deeper e0.frames,.inr ⟨rfl,rfl⟩,fun b z=>absurd z (noA b),e0.bs,e0.bsz,fun b _ _=>noA b,fun b z=>absurd z (noA b),e0.funs,e0.frf⟩,
  rfl,e0.bare,Un.kept hk,⟨_,x.toInCall.ns,fun i y v h1 h2 h3=>?_⟩,fun y c h=>⟨_,x.cell y c h⟩,e0.hok.fresh (Nat.le_refl _),fun y c h=>?_,fun p hp=>absurd (show p∈([]:List (Addr × Obj)) from hp) (by simp),e0.hok.kept hk,?_⟩
 ·exact name_of_addr x.apart (PySem.mem_of_lookup h1) (PySem.mem_of_lookup h2)
 ·have hy:scope.names.lookup y=some .cell∨scope.names.lookup y=some .free:=hy
  rcases hy with hy | hy
  ·exact la hy
  ·exact absurd rfl (S.nofree _ (PySem.mem_of_lookup hy))
 ·exact Nat.le_of_lt (x.above y c (PySem.mem_of_lookup h))
 ·have hi:i < vs.length:=by
   unfold cf at h2
   by_cases hi:i < vs.length
   ·exact hi
   ·rw [List.getElem?_append_right (by simpa using hi)] at h2
    rw [List.getElem?_replicate] at h2
    split at h2 <;> cases h2
  have ha:vs[i]?=some v:=by
   unfold cf at h2
   rw [List.getElem?_append_left (by simpa using hi),List.getElem?_map] at h2
   cases e:vs[i]? with
   | none=>rw [e] at h2; cases h2
   | some a=>rw [e] at h2; cases h2; rfl
  obtain ⟨u,hu,rv⟩:=r.get ha
  have hp:ps[i]?=some y:=by
   rw [← S.pre,List.getElem?_take_of_lt (by omega)]; exact h1
  have ndP:ps.Nodup:=by rw [← S.pre]; exact S.nd.sublist (List.take_sublist _ _)
  refine ⟨u,rv,?_⟩
  rcases S.par y (List.mem_of_getElem? hp) with k | k
  ·exact .inl ⟨k,jM ndP hp hu k⟩
  ·obtain ⟨c,e⟩:=la (n:=s.heap.objs.size+1) k
   refine .inr ⟨.inl k,c,e,?_⟩
   have q:=x.cell y c e
   rw [jO ndP hp hu (by show scope.names.lookup y≠_; rw [k]; decide)] at q
   exact q
 ·exact e0.hok.fresh (Nat.le_of_lt (x.above y c (PySem.mem_of_lookup h)))
 ·unfold cf
  show _=N.length
  rw [List.length_append,List.length_map,List.length_replicate]
  omega
theorem Cy {CX:CXT} {P:Program} {w:World} {K:PySem.W.Frag} {mg:Str→Option Value} {base:Heap} {k:Nat} {f:Addr} {name qual:Str} {params:Arguments} {body:List Stmt} {scope:Scope} {dV kV doc pm cdv ct oc:Value} {an od:Option Addr}
  {osl:Array (Option Value)} {N ps:List Str} {sp:Sp} (lk:K.lookup f=some ⟨oc,od,.func (PySem.W.fnOf name qual params body scope dV kV doc pm an cdv ct),osl⟩) (hcd:PySem.W.codeIn K cdv qual=true) (S:FnScope N ps scope)
  (len:∀ vs H Q E,sp vs H Q E→vs.length=ps.length)
  (hbody:∀ (A:Around) (outer:List Env) (s:Shared) (H:Hp) (vs:List V) (Q:VK) (E:XK),Room k (A.deeper (envOfC qual scope s.heap.objs.size f cdv))→sp vs H Q E →
   ∃ t,PSs (ig CX P w K mg base N qual scope f cdv A outer s H E) body t∧t { nx:=fun _ H'=>Q .non H',rt:=Q } (cf N vs) H) :
  FnOk P w K mg base CX (k+1) f (PySem.W.fnOf name qual params body scope dV kV doc pm an cdv ct) ps sp:=by
 refine ⟨len,fun A outer s H args us vs Q E hr e0 hb r hsp=>?_⟩
 have hl:=len _ _ _ _ hsp
 have KX:K.In s.heap:=e0.mod.kin.keeps fun b o e=>(e0.bs b o e).1
 have lim:s.heap.NoLimit:=e0.mod.nolimit.keeps fun b o e=>(e0.bs b o e).1
 have hkind:∀ y∈ps.zip us,scope.names.lookup y.1=some .local∨(scope.names.lookup y.1=some .cell∧((cellsFrom (s.heap.objs.size+1) scope.names []).lookup y.1).isSome=true):=fun ⟨n,v⟩ hy=>by
  rcases S.par n (List.of_mem_zip hy).1 with q | q
  ·exact .inl q
  ·exact .inr ⟨q,PySem.W.cellsFrom_some _ _ _ (.inl q)⟩
 refine codeAny_call_function hr.depth (KX _ _ lk) rfl S.co S.gen rfl (PySem.W.codeRec_of KX hcd) (hb _ _ _ _ ?_)
 refine wpAny_newFunctionEnv_cells S.kind hkind fun env he s1 x=>?_
 subst he
 refine ⟨lim.keeps x.toInCall.keep,codeAny_func ?_⟩
 obtain ⟨t,ht,hq⟩:=hbody A outer s H vs Q E (hr.deeper _) hsp
 have I:Inv (ig CX P w K mg base N qual scope f cdv A outer s H E) [] (cf N vs) H s1:=oe S hr.hd e0 hl r x
 refine wpAny_mono (ht [] s1 (cf N vs) H _ I hq) (fun fl s' hs=>?_) fun e s' hs=>hs
 have fin:∀ {σ':St} {H':Hp} {v:V} {u:Value},Inv (ig CX P w K mg base N qual scope f cdv A outer s H E) [] σ' H' s'→RelV v u→Q v H'→CE outer P w H s Q u s' :=
  fun {σ' H' v u} J rv q=>⟨v,H',J.os,J.bare,J.base,J.hok,rv,q⟩
 cases fl with
 | ret u =>
  obtain ⟨v,σ',H',J,rv,q⟩:=hs
  exact fin J rv q
 | next =>
  obtain ⟨σ',H',J,q⟩:=hs
  exact fin (v:=V.non) (u:=Value.none) J rfl q
 | brk =>
  obtain ⟨_,_,_,q⟩:=hs
  exact False.elim q
 | cont =>
  obtain ⟨_,_,_,q⟩:=hs
  exact False.elim q
end L2
namespace L2
open PySem PySem.Spec PyProof.Rows
section
variable {X:Cx} {x:Str} {p pos:Pos} {e:Expr} {es:List Expr} {t:TA} {id T:String} {r:List V→Hp→VK→Prop}
def tCB (r:List V→Hp→VK→Prop) (t:TA):TE:=fun σ H Q=>t σ H fun vs H1=>r vs H1 Q
theorem hZ (hc:CallR X (.builtin id) r) (hg:Gl X x) (hm:X.mg x=none) (hv:bootBuiltins x=some (.builtin id)) (ha:PA X (e :: es) t) (hn:x≠"__name__":=by decide) (hdb:(x == ("__debug__" : Str))=false:=by decide)
  (he:starEach (e :: es) X.env=(false,eval e X.env) :: starEach es X.env:=by rfl) (hpl:(backTo pos (starEach es X.env)).any (·.1)=false:=by rfl):PE X (.Call (.Name x p) (e :: es) [] pos) (tCB r t):=by
 intro pins s σ H Q I h
 refine wpAny_Call_Name_kw (iH I hg hm hv ?_ hn hdb)
 exact PyProof.Rows.callWith_builtin1 (thn (ha pos pins s σ H _ I h) fun us s1 ⟨vs,H1,I1,r1,q1⟩=>hc pins s1 σ H1 vs us Q I1 r1 q1) he hpl
theorem jA (hc:CallR X (.type T) r) (hg:Gl X x) (hm:X.mg x=none) (hv:bootBuiltins x=some (.type T)) (ha:PA X (e :: es) t) (hn:x≠"__name__":=by decide) (hdb:(x == ("__debug__" : Str))=false:=by decide)
  (he:starEach (e :: es) X.env=(false,eval e X.env) :: starEach es X.env:=by rfl) (hpl:(backTo pos (starEach es X.env)).any (·.1)=false:=by rfl):PE X (.Call (.Name x p) (e :: es) [] pos) (tCB r t):=by
 intro pins s σ H Q I h
 refine wpAny_Call_Name_kw (iH I hg hm hv ?_ hn hdb)
 exact PyProof.Rows.callWith_type1 (thn (ha pos pins s σ H _ I h) fun us s1 ⟨vs,H1,I1,r1,q1⟩=>hc pins s1 σ H1 vs us Q I1 r1 q1) he hpl
end
end L2
namespace HT
open PySem PyProof.Rows
section
open PySem.SeqAt
open PySem.AutoSeq1 (wpAny_loadPart')
open PySem.MeetsSeq PySem.MeetsSeq2 PySem.MeetsSeq3
end
section
variable {prog:Program} {w:World} {A:Around} {E:Value→Shared→Prop} {s:Shared}
theorem cat_tup {t b:Addr} {vs ws:List Value} {Q:Value→Shared→Prop} (ht:IsTup s.heap t vs.toArray) (hb:IsTup s.heap b ws.toArray) (hv:vs≠[])
  (h1:ws=[]→Q (.ref t) s) (h2:ws≠[]→Q (.ref s.heap.objs.size) { s with heap:=s.heap.push { cls:=.type "tuple",data:=.seq (vs++ws).toArray } })
  (hsz:vs.length+ws.length≤sizeLine):wpAny (model prog w) A (binaryOp .Add (.ref t) (.ref b)) Q E s:=by
 obtain ⟨⟨cls,dd,data,sl⟩,ho,hc,n,hd⟩:=id ht
 obtain ⟨⟨cls2,dd2,data2,sl2⟩,ho2,hc2,n2,hd2⟩:=id hb
 simp only at hc hd hc2 hd2
 subst hc hd hc2 hd2
 have e:vs.toArray++ws.toArray=(vs++ws).toArray:=by simp
 by_cases hw:ws=[]
 ·exact concat_meets ⟨_,ho,rfl⟩ ⟨_,ho2,rfl⟩ noFill_tuple_add seq_tuple_add PySem.F.slot_tuple_add PySem.F.entry_tuple_add (PySem.F.args_tuple_add_2 _ _)
   (tuple_addW1 t b vs.toArray ws.toArray n n2 dd dd2 sl sl2 (by simpa using hv) (by simp [hw])) ⟨ho,ho2,h1 hw⟩
 ·refine concat_meets ⟨_,ho,rfl⟩ ⟨_,ho2,rfl⟩ noFill_tuple_add seq_tuple_add PySem.F.slot_tuple_add PySem.F.entry_tuple_add (PySem.F.args_tuple_add_2 _ _)
   (tuple_addW2 t b vs.toArray ws.toArray n n2 dd dd2 sl sl2 (by simpa using hv) (by simpa using hw) (by rw [List.size_toArray,List.size_toArray]; exact hsz)) ⟨ho,ho2,?_⟩
  rw [e]
  exact h2 hw
def sIx (n d:Nat):Option Int→Nat
 | none=>d
 | some v=>if v < 0 then (v+(n:Int)).toNat else min v.toNat n
theorem sIx_none (n d:Nat):sIx n d none=d:=rfl
theorem sIx_nat (n d k:Nat):sIx n d (some (k:Int))=min k n:=by
 show (if (k:Int) < 0 then ((k:Int)+(n:Int)).toNat else min (k:Int).toNat n)=min k n
 rw [if_neg (by omega),Int.toNat_natCast]
theorem kr (n d:Nat) (hd:d≤n) (o:Option Int):sIx n d o≤n:=by
 cases o with
 | none=>exact hd
 | some v =>
  show (if v < 0 then (v+(n:Int)).toNat else min v.toNat n)≤n
  by_cases hv:v < 0
  ·rw [if_pos hv]; omega
  ·rw [if_neg hv]; exact Nat.min_le_right _ _
theorem mh (v:Int) (n d:Nat):(if v < 0 then max (v+(n:Int)) 0 else min v (n:Int))=((sIx n d (some v):Nat):Int):=by
 show (if v < 0 then max (v+(n:Int)) 0 else min v (n:Int))=(((if v < 0 then (v+(n:Int)).toNat else min v.toNat n):Nat):Int)
 by_cases hv:v < 0
 ·simp only [if_pos hv]; omega
 ·simp only [if_neg hv]; omega
theorem nh (lo hi:Option Int) (n:Nat):Builtin.Slice.sliceAdjust lo hi 1 (n:Int)=(((sIx n 0 lo:Nat):Int),((sIx n n hi:Nat):Int)):=by
 have h1:¬ ((1:Int) < 0):=by omega
 unfold Builtin.Slice.sliceAdjust
 simp only [h1,if_false]
 refine Prod.ext ?_ ?_
 ·cases lo with
  | none=>rfl
  | some v=>exact mh v n 0
 ·cases hi with
  | none=>rfl
  | some v=>exact mh v n n
theorem mz (i j:Nat):Builtin.Slice.slicePlaces (i:Int) (j:Int) 1=j - i:=by
 unfold Builtin.Slice.slicePlaces
 have h1:(1:Int) > 0:=by omega
 simp only [h1,if_true,Int.ediv_one]
 split <;> omega
theorem slicePart_ {v:Value} {o:Option Int} {Q:Option Int→Shared→Prop} (p:IsPart v o) (h:Q o s):wpAny (model prog w) A (Builtin.Slice.slicePartIndex v) Q E s:=by
 cases p with
 | none=>exact slicePart_none h
 | int i t=>exact slicePart_int h
theorem dO {sl:Addr} {vl vu:Value} {lo hi:Option Int} {n:Nat} {Q:Int × Int × Nat→Shared→Prop} (hs:s.heap.IsSliceOf sl vl vu .none) (pl:IsPart vl lo) (pu:IsPart vu hi)
  (h:Q (((sIx n 0 lo:Nat):Int),1,sIx n n hi - sIx n 0 lo) s):wpAny (model prog w) A (Builtin.Slice.sliceApplied (.ref sl) (pure (n:Int))) Q E s:=by
 obtain ⟨os,hos,hcs,hds⟩:=id hs
 unfold Builtin.Slice.sliceApplied Builtin.Slice.sliceFields
 refine wpAny_bind (wpAny_bind (wpAny_field hos hds (x:=vl) rfl (wpAny_bind (wpAny_field hos hds (x:=vu) rfl (wpAny_bind (wpAny_field hos hds (x:=.none) rfl (wpAny_pure ?_)))))))
 refine wpAny_bind (slicePart_none ?_)
 show wpAny _ _ (if ((1:Int) == 0)=true then _ else _) _ _ s
 rw [if_neg (by decide)]
 refine wpAny_bind (slicePart_ pl (wpAny_bind (slicePart_ pu (wpAny_bind (wpAny_pure ?_)))))
 show wpAny _ _ (match Builtin.Slice.sliceAdjust lo hi 1 (n:Int) with | (lo,hi)=>pure (lo,(1:Int),Builtin.Slice.slicePlaces lo hi 1)) _ _ s
 rw [nh lo hi n]
 show wpAny _ _ (pure (((sIx n 0 lo:Nat):Int),(1:Int),Builtin.Slice.slicePlaces ((sIx n 0 lo:Nat):Int) ((sIx n n hi:Nat):Int) 1)) _ _ s
 rw [mz]
 exact wpAny_pure h
theorem pr (xs:Array Value) (i k:Nat):((List.range k).filterMap fun (m:Nat)=>xs[((i:Int)+(m:Int) * 1).toNat]?).toArray=((xs.toList.drop i).take k).toArray:=by
 have e:(fun (m:Nat)=>xs[((i:Int)+(m:Int) * 1).toNat]?)=fun m=>xs[i+m]?:=by
  funext m
  have:((i:Int)+(m:Int) * 1).toNat=i+m:=by omega
  rw [this]
 rw [e]
 have:=pick_run xs i k
 rw [List.filterMap_map] at this
 have e2:((fun x=>xs[x]?) ∘ fun x=>i+x)=fun m=>xs[i+m]?:=rfl
 rw [e2] at this
 rw [this]
theorem getItem_tuple_cut {t sl:Addr} {items:Array Value} {vl vu:Value} {lo hi:Option Int} {Q:Value→Shared→Prop} (ht:IsTup s.heap t items) (hs:s.heap.IsSliceOf sl vl vu .none) (pl:IsPart vl lo) (pu:IsPart vu hi)
  (hw:¬ (sIx items.size 0 lo=0∧sIx items.size items.size hi=items.size))
  (h:Q (.ref s.heap.objs.size) { s with heap:=s.heap.push { cls:=.type "tuple",data:=.seq ((items.toList.drop (sIx items.size 0 lo)).take (sIx items.size items.size hi - sIx items.size 0 lo)).toArray } })
  (hsz:items.size≤sizeLine):wpAny (model prog w) A (getItem (.ref t) (.ref sl)) Q E s:=by
 have htake:sizeOk (.seq ((items.toList.drop (sIx items.size 0 lo)).take (sIx items.size items.size hi - sIx items.size 0 lo)).toArray):=by
  show ((items.toList.drop (sIx items.size 0 lo)).take (sIx items.size items.size hi - sIx items.size 0 lo)).toArray.size≤sizeLine
  rw [List.size_toArray,List.length_take,List.length_drop,Array.length_toList]
  omega
 have hj:sIx items.size items.size hi≤items.size:=kr _ _ (Nat.le_refl _) hi
 obtain ⟨os,hos,hcs,hds⟩:=id hs
 have hTs:s.TypeIs (.ref sl) "slice":=⟨os,hos,hcs⟩
 unfold getItem
 try with_reducible refine wpAny_holding ?_
 first | refine wpAny_bind (wpAny_pure ?_) | skip
 refine wpAny_bind (wpAny_sequenceKey ht.typeIs (by decide) ?_)
 refine wpAny_bind (wpAny_callSpecial?_slot (name:=Str.ofString "__getitem__") ht.typeIs PyProof.Rows.slot_tuple_getitem
  (wpAny_call_entry PyProof.Rows.slot_tuple_getitem ht.typeIs entry_tuple_getitem ?_ (args_tuple_getitem _ _)))
 show wpAny _ _ (Builtin.Tuple.tupleItemsOf (.ref t) >>= _) _ _ s
 refine wpAny_bind (tupleItemsOf_ ht ?_)
 refine wpAny_bind (wpAny_typeOf hTs ?_)
 rw [if_pos (by decide)]
 refine wpAny_bind (dO hs pl pu ?_)
 have hno:¬ ((((sIx items.size 0 lo:Nat):Int) == 0 && (1:Int) == 1 && (sIx items.size items.size hi - sIx items.size 0 lo) == items.size)=true):=by
  intro q
  rw [Bool.and_eq_true,Bool.and_eq_true] at q
  have q1:((sIx items.size 0 lo:Nat):Int)=0:=eq_of_beq q.1.1
  have q2:sIx items.size items.size hi - sIx items.size 0 lo=items.size:=eq_of_beq q.2
  exact hw ⟨by omega,by omega⟩
 show wpAny _ _ (if (((sIx items.size 0 lo:Nat):Int) == 0 && (1:Int) == 1 && (sIx items.size items.size hi - sIx items.size 0 lo) == items.size)=true then _ else _) _ _ s
 rw [if_neg hno,pr]
 first
  | exact wpAny_bind (m:=Builtin.Tuple.tupleExact _) (wpAny_newObj_type (wpAny_pure ⟨_,rfl,wpAny_pure h⟩) htake)
  | exact wpAny_bind (m:=Builtin.Tuple.tupleExact _) (wpAny_newObj_type (wpAny_bind (wpAny_pure (wpAny_pure ⟨_,rfl,wpAny_pure h⟩))) htake)
  | exact wpAny_bind (wpAny_bind (m:=Builtin.Tuple.tupleExact _) (wpAny_newObj_type (wpAny_pure (wpAny_pure ⟨_,rfl,wpAny_pure h⟩)) htake))
  | exact wpAny_bind (wpAny_bind (m:=Builtin.Tuple.tupleExact _) (wpAny_newObj_type (wpAny_pure ⟨_,rfl,wpAny_pure h⟩) htake))
end
end HT
namespace L2
open PySem PySem.Spec PyProof.Rows
abbrev TO:=St→Hp→(Option Int→Hp→Prop)→Prop
def PO (X:Cx) (e:Option Expr) (t:TO):Prop :=
 ∀ (pins:List (Addr × Obj)) (s:Shared) (σ:St) (H:Hp) (Q:Option Int→Hp→Prop),Inv X pins σ H s→t σ H Q →
  wpAny (model X.prog X.w) X.A (evalPart e X.env) (fun u s'=>∃ o H',Inv X pins σ H' s'∧IsPart u o∧Q o H') X.xe s
def wC:TO:=fun _ H Q=>Q none H
def Ca (t:TE):TO:=fun σ H Q=>t σ H fun x H1=>∃ i,x=.int i∧Q (some i) H1
section
variable {X:Cx} {e:Expr} {te:TE} {lo hi:Option Expr} {tl th:TO} {pos p2:Pos}
theorem po_none:PO X none wC:=by
 intro pins s σ H Q I h
 rw [evalPart_none]
 exact wpAny_pure ⟨none,H,I,.none,h⟩
theorem wQ (h:PE X e te):PO X (some e) (Ca te):=by
 intro pins s σ H Q I hw
 rw [evalPart_some]
 refine thn (h pins s σ H _ I hw) fun u s1 ⟨x,H1,I1,r1,q1⟩=>?_
 obtain ⟨i,rfl,q⟩:=q1
 obtain ⟨t,rfl⟩:=r1
 exact ⟨some i,H1,I1,.int i t,q⟩
def SlR (X:Cx) (r:V→Option Int→Option Int→Hp→VK→Prop):Prop :=
 ∀ (pins:List (Addr × Obj)) (s:Shared) (σ:St) (H:Hp) (x:V) (v vl vu:Value) (lo hi:Option Int) (sl:Addr) (Q:VK),Inv X pins σ H s→RelV x v→s.heap.IsSliceOf sl vl vu .none→IsPart vl lo→IsPart vu hi→r x lo hi H Q →
  ∃ T id,typeLookup (.type T) "__getitem__"=pure (some (.builtin id))∧s.TypeIs v T∧wpAny (model X.prog X.w) X.A (getItem v (.ref sl)) (EP X pins σ Q) X.xe s
def tSl (r:V→Option Int→Option Int→Hp→VK→Prop) (te:TE) (tl th:TO):TE:=fun σ H Q=>te σ H fun x H1=>tl σ H1 fun l H2=>th σ H2 fun u H3=>r x l u H3 Q
theorem pv {r:V→Option Int→Option Int→Hp→VK→Prop} (hr:SlR X r) (he:PE X e te) (hl:PO X lo tl) (hu:PO X hi th):PE X (.Subscript e (.Slice lo hi none p2) pos) (tSl r te tl th):=by
 intro pins s σ H Q I h
 refine Subscript_ (thn (he pins s σ H _ I h) fun v s1 ⟨x,H1,I1,r1,q1⟩=>?_)
 refine wpAny_Slice (thn (hl pins s1 σ H1 _ I1 q1) fun vl s2 ⟨l,H2,I2,pl,q2⟩=>thn (hu pins s2 σ H2 _ I2 q2) fun vu s3 ⟨u,H3,I3,pu,q3⟩=>?_)
 rw [evalPart_none]
 refine wpAny_pure ?_
 have I4:Inv X pins σ H3 { s3 with heap:=s3.heap.push { cls:=.type "slice",data:=.fields #[vl,vu,.none] } }:=I3.kept (t':=s3.toks) fun b ob q=>Heap.get?_push_of_some _ q
 obtain ⟨T,id,hT,ht,hg⟩:=hr pins { s3 with heap:=s3.heap.push { cls:=.type "slice",data:=.fields #[vl,vu,.none] } } σ H3 x v vl vu l u s3.heap.objs.size Q I4 r1 (Heap.IsSliceOf.new ..) pl pu q3
 show wpAny (model X.prog X.w) X.A (subscriptTail e (.Slice lo hi none p2) v (.ref s3.heap.objs.size)) (EP X pins σ Q) X.xe { s3 with heap:=s3.heap.push { cls:=.type "slice",data:=.fields #[vl,vu,.none] } }
 exact tail_any (ops:=[.ref s3.heap.objs.size,v]) ht hT hg (by with_unfolding_all rfl)
def eR (xs:List V) (lo hi:Option Int):List V:=(xs.drop (HT.sIx xs.length 0 lo)).take (HT.sIx xs.length xs.length hi - HT.sIx xs.length 0 lo)
theorem gY (xs:List V) (lo hi:Option Int):(eR xs lo hi).length≤xs.length:=by
 unfold eR
 rw [List.length_take,List.length_drop]
 omega
def At (K:PySem.W.Frag):V→Option Int→Option Int→Hp→VK→Prop:=fun x lo hi H Q=>∃ a xs,x=.ref a∧SqT K H a xs ∧
 ¬ (HT.sIx xs.length 0 lo=0∧HT.sIx xs.length xs.length hi=xs.length)∧∀ p,H p=none→Q (.ref p) (upd H p (.tup (eR xs lo hi)))
theorem Aq:SlR X (At X.K):=by
 intro pins s σ H x v vl vu lo hi sl Q I rx hs pl pu h
 obtain ⟨a,xs,rfl,hx,hw,q⟩:=h
 cases rx
 obtain ⟨its,r,ht,hz⟩:=I.tuple hx
 have hlen:its.toArray.size=xs.length:=by rw [List.size_toArray]; exact r.length.symm
 refine ⟨"tuple",_,PyProof.Rows.slot_tuple_getitem.lookup,ht.typeIs,?_⟩
 refine HT.getItem_tuple_cut ht hs pl pu (by rw [hlen]; exact hw) ?_ (by rw [hlen]; exact hz)
 rw [hlen]
 refine ⟨.ref s.heap.objs.size,_,I.laid (t':=s.toks) (o:=.tup (eR xs lo hi)) (fun b ob q=>Heap.get?_push_of_some _ q) (Nat.le_refl _) ?_,rfl,q _ (I.hok.fresh (Nat.le_refl _))⟩
 exact ⟨Nat.le_trans (gY xs lo hi) hz,_,(r.drop (HT.sIx xs.length 0 lo)).take (HT.sIx xs.length xs.length hi - HT.sIx xs.length 0 lo),IsTupN.new _ _⟩
def we (K:PySem.W.Frag):R2:=fun x y H Q=>∃ a b xs ys,x=.ref a∧y=.ref b∧SqT K H a xs∧SqT K H b ys∧xs≠[]∧xs.length+ys.length≤sizeLine ∧
 (ys=[]→Q (.ref a) H)∧(ys≠[]→∀ p,H p=none→Q (.ref p) (upd H p (.tup (xs++ys))))
theorem Vals.nil_iff {xs:List V} {us:List Value} (r:Vals xs us):us=[]↔xs=[]:=by
 cases r with
 | nil=>simp
 | cons _ _=>simp
theorem wX:OpR X (binaryOp .Add) (we X.K):=by
 intro pins s σ H x y v u Q I rx ry h
 obtain ⟨a,b,xs,ys,rfl,rfl,ha,hb,hx,hz,q1,q2⟩:=h
 cases rx
 cases ry
 obtain ⟨its,r1,p1,_⟩:=I.tuple ha
 obtain ⟨its2,r2,p2,_⟩:=I.tuple hb
 refine HT.cat_tup p1 p2 (fun z=>hx (r1.nil_iff.mp z)) (fun z=>⟨.ref a,H,I,rfl,q1 (r2.nil_iff.mp z)⟩) (fun z=>?_) (by rw [← r1.length,← r2.length]; exact hz)
 refine ⟨.ref s.heap.objs.size,_,I.laid (t':=s.toks) (o:=.tup (xs++ys)) (fun b ob q=>Heap.get?_push_of_some _ q) (Nat.le_refl _) ?_,rfl,q2 (fun w=>z (r2.nil_iff.mpr w)) _ (I.hok.fresh (Nat.le_refl _))⟩
 exact ⟨by rw [List.length_append]; exact hz,_,r1.append r2,IsTupN.new _ _⟩
end
end L2
namespace L2
open PySem PySem.Spec PyProof.Rows
def ixN (n:Nat) (i:Int):Option Nat:=if 0≤i then (if i < n then some i.toNat else none) else if -(n:Int)≤i then some (i+n).toNat else none
def atI {α:Type} (xs:List α) (i:Int):Option α:=(ixN xs.length i).bind fun j=>xs[j]?
theorem lY {n:Nat} {i:Int} {j:Nat} (h:ixN n i=some j):seqIndex? i n=some j∧j < n∧-(n:Int)≤i∧i < n:=by
 unfold ixN at h
 by_cases h0:0≤i
 ·rw [if_pos h0] at h
  by_cases h1:i < n
  ·rw [if_pos h1] at h
   have e:i.toNat=j:=Option.some.inj h
   exact ⟨by rw [seqIndex_of h0 h1,e],by omega,by omega,h1⟩
  ·rw [if_neg h1] at h; cases h
 ·rw [if_neg h0] at h
  by_cases h1:-(n:Int)≤i
  ·rw [if_pos h1] at h
   have e:(i+n).toNat=j:=Option.some.inj h
   exact ⟨by rw [seqIndex_neg (by omega) h1,e],by omega,h1,by omega⟩
  ·rw [if_neg h1] at h; cases h
theorem ju {α:Type} {xs:List α} {i:Int} {v:α} (h:atI xs i=some v):∃ j,seqIndex? i xs.length=some j∧xs[j]?=some v∧j < xs.length∧-(xs.length:Int)≤i∧i < xs.length:=by
 unfold atI at h
 cases e:ixN xs.length i with
 | none=>rw [e] at h; cases h
 | some j =>
  rw [e] at h
  obtain ⟨h1,h2,h3,h4⟩:=lY e
  exact ⟨j,h1,h,h2,h3,h4⟩
def fr (b:Expr):Prop:=∀ o i,subscripted b false o i=operate [o,i] (getItem o i)
def IxR (X:Cx) (r:R2):Prop :=
 ∀ (value slice:Expr) (pins:List (Addr × Obj)) (s:Shared) (σ:St) (H:Hp) (x y:V) (v u:Value) (Q:VK),Inv X pins σ H s→RelV x v→RelV y u→r x y H Q →
  subscripted slice false v u=operate [v,u] (getItem v u)→wpAny (model X.prog X.w) X.A (subscriptTail value slice v u) (EP X pins σ Q) X.xe s
def MtR (X:Cx) (id:String) (r:V→List V→Hp→VK→Prop):Prop :=
 ∀ (pins:List (Addr × Obj)) (s:Shared) (σ:St) (H:Hp) (x:V) (xs:List V) (v:Value) (us:List Value) (Q:VK),Inv X pins σ H s→RelV x v→Vals xs us→r x xs H Q →
  wpAny (model X.prog X.w) X.A (call (.builtin id) (v :: us)) (EP X pins σ Q) X.xe s
section
variable {X:Cx} {a b:Expr} {ta tb:TE} {pos:Pos}
theorem IxR.or {r r':R2} (h:IxR X r) (h':IxR X r'):IxR X (fun x y H Q=>r x y H Q∨r' x y H Q):=by
 intro value slice pins s σ H x y v u Q I rx ry q hs
 rcases q with q | q
 ·exact h value slice pins s σ H x y v u Q I rx ry q hs
 ·exact h' value slice pins s σ H x y v u Q I rx ry q hs
theorem wf {r:R2} (hr:IxR X r) (ha:PE X a ta) (hb:PE X b tb) (hs:fr b):PE X (.Subscript a b pos) (tOp r ta tb):=by
 intro pins s σ H Q I h
 exact Subscript_ (qu ha hb I h fun v u s2 x y H2 I2 rx ry q=>hr a b pins s2 σ H2 x y v u Q I2 rx ry q (hs _ _))
def mx (K:PySem.W.Frag):R2:=fun x y H Q=>∃ p xs i v,x=.ref p∧y=.int i∧SqL K H p xs∧atI xs i=some v∧Q v H
def Aw (K:PySem.W.Frag):R2:=fun x y H Q=>∃ p xs i v,x=.ref p∧y=.int i∧SqT K H p xs∧atI xs i=some v∧Q v H
def Ax:R2:=fun x y H Q=>∃ z i c,x=.str z∧y=.int i∧z.length≤sizeLine∧atI z.cps.toList i=some c∧Q (.str ⟨#[c]⟩) H
theorem ix_list:IxR X (mx X.K):=by
 intro value slice pins s σ H x y v u Q I rx ry h hs
 obtain ⟨p,xs,i,z,rfl,rfl,hq,he,q⟩:=h
 cases rx
 obtain ⟨t,rfl⟩:=ry
 obtain ⟨its,r,pl,hz⟩:=I.list hq
 obtain ⟨j,h1,h2,h3,h4,h5⟩:=ju he
 obtain ⟨w,ew,rw'⟩:=r.get h2
 have hl:=r.length
 have hn:=ff
 have fin:EP X pins σ Q w s:=⟨z,H,I,rw',q⟩
 by_cases h0:0≤i
 ·have hj:i.toNat=j:=by
   rw [seqIndex_of h0 h5] at h1
   exact Option.some.inj h1
  exact item_listR pl.isList h0 (by omega) (by rw [hj]; simpa using ew) fin hs
 ·have hj:(i+(its.toArray.size:Int)).toNat=j:=by
   rw [seqIndex_neg (by omega) h4] at h1
   rw [List.size_toArray,← hl]
   exact Option.some.inj h1
  exact subscriptTail_builtinR (x:=w) pl.isList.typeIs slot_list_getitem.lookup
   (wpAny_getItem_list_neg (Q:=fun r s'=>r=w∧EP X pins σ Q r s') pl.isList (by omega) (by rw [List.size_toArray] <;> omega) (by omega) (by rw [hj]; simpa using ew) ⟨rfl,fin⟩) hs
theorem ix_tup:IxR X (Aw X.K):=by
 intro value slice pins s σ H x y v u Q I rx ry h hs
 obtain ⟨p,xs,i,z,rfl,rfl,hq,he,q⟩:=h
 cases rx
 obtain ⟨t,rfl⟩:=ry
 obtain ⟨its,r,pl,hz⟩:=I.tuple hq
 obtain ⟨j,h1,h2,h3,h4,h5⟩:=ju he
 obtain ⟨w,ew,rw'⟩:=r.get h2
 have hl:=r.length
 have hn:=ff
 have fin:EP X pins σ Q w s:=⟨z,H,I,rw',q⟩
 exact subscriptTail_builtinR (x:=w) pl.typeIs slot_tuple_getitem.lookup
  (getItem_tuple (j:=j) (Q:=fun r s'=>r=w∧EP X pins σ Q r s') pl (by omega) (by omega) (by rw [List.size_toArray,← hl]; exact h1) (by simpa using ew) ⟨rfl,fin⟩) hs
theorem ix_str:IxR X Ax:=by
 intro value slice pins s σ H x y v u Q I rx ry h hs
 obtain ⟨z,i,c,rfl,rfl,hz,he,q⟩:=h
 obtain ⟨t,rfl⟩:=rx
 obtain ⟨t',rfl⟩:=ry
 obtain ⟨j,h1,h2,h3,h4,h5⟩:=ju he
 have hl:z.cps.toList.length=z.length:=by simp [Str.length]
 rw [hl] at h1 h4 h5
 have hn:=ff
 exact tail_any (typeIs_str s z t) slot_str_getitem.lookup (getItem_str (c:=c) (by
  have e1:decide (i < -(2 ^ 63:Int))=false:=decide_eq_false (by omega)
  have e2:decide (i ≥ 2 ^ 63)=false:=decide_eq_false (by omega)
  rw [e1,e2,Bool.or_false]) (by rw [h1]; simpa using h2) ⟨.str ⟨#[c]⟩,H,I.tok _,⟨_,rfl⟩,q⟩) hs
def rIx (K:PySem.W.Frag):R2:=fun x y H Q=>mx K x y H Q∨Aw K x y H Q∨Ax x y H Q
theorem ix_seq:IxR X (rIx X.K):=ix_list.or (ix_tup.or ix_str)
theorem mH (its:List Value) (n j:Nat) (u:Value):Obj.mapSeq (·.setIfInBounds j u) { cls:=.type "list",data:=.seq its.toArray n }={ cls:=.type "list",data:=.seq (its.set j u).toArray n }:=by
 simp [Obj.mapSeq]
theorem Inv.lst {pins:List (Addr × Obj)} {σ:St} {H:Hp} {s:Shared} {p:Addr} {xs:List V} (I:Inv X pins σ H s) (h:H p=some (.lst xs)) :
  ∃ (its:List Value) (n:Nat),Vals xs its∧s.heap.get? p=some { cls:=.type "list",data:=.seq its.toArray n }∧xs.length≤sizeLine:=by
 obtain ⟨z,its,n,r,e⟩:=I.hok p _ h
 exact ⟨its,n,r,e,z⟩
theorem Inv.lstUpd {pins:List (Addr × Obj)} {σ:St} {H:Hp} {s:Shared} {p:Addr} {xs ys:List V} {its its':List Value} {n n':Nat} {f:Obj→Obj} (I:Inv X pins σ H s) (h:H p=some (.lst xs))
  (ho:s.heap.get? p=some { cls:=.type "list",data:=.seq its.toArray n }) (hf:f { cls:=.type "list",data:=.seq its.toArray n }={ cls:=.type "list",data:=.seq its'.toArray n' }) (r:Vals ys its') (hz:ys.length≤sizeLine) (t:Nat) :
  Inv X pins σ (upd H p (.lst ys)) { s with heap:=s.heap.update p f,toks:=t }:=by
 have e:(s.heap.update p f).get? p=some { cls:=.type "list",data:=.seq its'.toArray n' }:=by
  rw [Heap.get?_update_self f ho (by rw [hf] <;> rfl),hf]
 refine I.write (x:=p) (e:=p) (by rw [h]; trivial) (.inl rfl) (fun b u hb q=>(Heap.get?_update_other _ _ (Ne.symm hb)).trans q) ⟨_,e⟩ ?_
 exact ⟨hz,its',n',r,e⟩
def wc:V→V→V→Hp→(Hp→Prop)→Prop:=fun o i v H Q=>∃ p xs k j,o=.ref p∧i=.int k∧H p=some (.lst xs)∧ixN xs.length k=some j∧Q (upd H p (.lst (xs.set j v)))
theorem pi:B5 X wc:=by
 intro pins s σ H o i v ov iv u Q I ro ri rv h
 obtain ⟨p,xs,k,j,rfl,rfl,hp,hj,q⟩:=h
 cases ro
 obtain ⟨t,rfl⟩:=ri
 obtain ⟨its,n,r,ho,hz⟩:=I.lst hp
 obtain ⟨h1,h2,h3,h4⟩:=lY hj
 have hl:=r.length
 have hn:=ff
 have I':Inv X pins σ (upd H p (.lst (xs.set j v))) { s with heap:=s.heap.update p (Obj.mapSeq (·.setIfInBounds j u)) } :=
  I.lstUpd hp ho (mH its n j u) (r.set rv j) (by rw [List.length_set]; exact hz) s.toks
 by_cases h0:0≤k
 ·have hk:k.toNat=j:=by
   rw [seqIndex_of h0 h4] at h1
   exact Option.some.inj h1
  exact PySem.W.ki_setAt ho h0 (by omega) (by rw [List.size_toArray,← hl]; exact h4) (by rw [hk]; exact ⟨_,I',q⟩)
 ·have hk:(k+(its.toArray.size:Int)).toNat=j:=by
   rw [seqIndex_neg (by omega) h3] at h1
   rw [List.size_toArray,← hl]
   exact Option.some.inj h1
  exact PySem.W.ki_setBack ho (by omega) (by rw [List.size_toArray,← hl]; exact h3) (by omega) (by rw [hk]; exact ⟨_,I',q⟩)
theorem gf (lo hi:Option Int) (n:Nat):(sliceBounds lo hi none n).1=((HT.sIx n 0 lo:Nat):Int)∧(sliceBounds lo hi none n).2.1=((HT.sIx n n hi:Nat):Int)∧(sliceBounds lo hi none n).2.2=1:=by
 refine ⟨?_,?_,rfl⟩
 ·cases lo with
  | none=>simp [sliceBounds,HT.sIx]
  | some i =>
   simp only [sliceBounds,HT.sIx,Option.getD_none,show (1:Int) > 0 by decide,if_true]
   by_cases h:i < 0
   ·simp only [h,if_true] <;> omega
   ·simp only [h,if_false] <;> omega
 ·cases hi with
  | none=>simp [sliceBounds,HT.sIx]
  | some i =>
   simp only [sliceBounds,HT.sIx,Option.getD_none,show (1:Int) > 0 by decide,if_true]
   by_cases h:i < 0
   ·simp only [h,if_true] <;> omega
   ·simp only [h,if_false] <;> omega
theorem jU (its:List Value) (lo hi:Option Int):slicePick its.toArray lo hi none=((its.drop (HT.sIx its.length 0 lo)).take (HT.sIx its.length its.length hi - HT.sIx its.length 0 lo)).toArray:=by
 obtain ⟨h1,h2,h3⟩:=gf lo hi its.toArray.size
 unfold slicePick
 rw [h1,h2,h3]
 simp only [sliceRange_one,pick_run,List.size_toArray] <;> rfl
def Au (K:PySem.W.Frag):V→Option Int→Option Int→Hp→VK→Prop:=fun x lo hi H Q=>∃ a xs,x=.ref a∧SqL K H a xs∧∀ p,H p=none→Q (.ref p) (upd H p (.lst (eR xs lo hi)))
theorem wF:SlR X (Au X.K):=by
 intro pins s σ H x v vl vu lo hi sl Q I rx hs pl pu h
 obtain ⟨a,xs,rfl,hx,q⟩:=h
 cases rx
 obtain ⟨its,r,ht,hz⟩:=I.list hx
 have hlen:=r.length
 refine ⟨"list",_,slot_list_getitem.lookup,ht.isList.typeIs,?_⟩
 refine wpAny_getItem_list_slice ht.isList hs pl pu .none (by simp) ?_ (by rw [List.size_toArray] <;> omega)
 rw [jU,← hlen]
 refine ⟨.ref s.heap.objs.size,_,I.laid (t':=s.toks) (o:=.lst (eR xs lo hi)) (fun b ob q=>Heap.get?_push_of_some _ q) (Nat.le_refl _) ?_,rfl,q _ (I.hok.fresh (Nat.le_refl _))⟩
 exact ⟨Nat.le_trans (gY xs lo hi) hz,_,0,(r.drop (HT.sIx xs.length 0 lo)).take (HT.sIx xs.length xs.length hi - HT.sIx xs.length 0 lo),Heap.get?_push_size _ rfl⟩
theorem ld:CallR X (.type "list") (fun xs H Q=>∃ p ys,xs=[.ref p]∧(SqL X.K H p ys∨SqT X.K H p ys)∧∀ l,H l=none→Q (.ref l) (upd H l (.lst ys))):=by
 intro pins s σ H xs us Q I r h
 obtain ⟨p,ys,rfl,hq,q⟩:=h
 obtain ⟨u,rfl,rx⟩:=bJ r
 cases rx
 have fin:∀ (its:List Value),Vals ys its→ys.length≤sizeLine→∀ (h':Heap) (c':Nat),(∀ b o',s.heap.get? b=some o'→h'.get? b=some o') →
   h'.get? s.heap.objs.size=some { cls:=.type "list",dict:=none,data:=.seq its.toArray c',slots:=#[] }→EP X pins σ Q (.ref s.heap.objs.size) { s with heap:=h' }:=fun its r' hz h' c' kp e =>
  ⟨.ref s.heap.objs.size,_,I.laid (t':=s.toks) kp (Nat.le_refl _) (show ObjOk X.prog X.w _ h' _ (.lst ys) from ⟨hz,its,c',r',e⟩),rfl,q _ (I.hok.fresh (Nat.le_refl _))⟩
 rcases hq with hq | hq
 ·obtain ⟨its,r',pl,hz⟩:=I.list hq
  have hlen:=r'.length
  obtain ⟨o,ho,hc,n,hd⟩:=pl.isList
  exact call_list_seq p (.inl rfl) ho hc hd (fun h' c' kp e=>fin its r' hz h' c' kp e) (by simp only [List.size_toArray] <;> omega)
 ·obtain ⟨its,r',pl,hz⟩:=I.tuple hq
  have hlen:=r'.length
  obtain ⟨o,ho,hc,n,hd⟩:=pl
  exact call_list_seq p (.inr rfl) ho hc hd (fun h' c' kp e=>fin its r' hz h' c' kp e) (by simp only [List.size_toArray] <;> omega)
theorem jY:CallR X (.type "tuple") (fun xs H Q=>∃ p ys,xs=[.ref p]∧((SqL X.K H p ys∧∀ l,H l=none→Q (.ref l) (upd H l (.tup ys)))∨(SqT X.K H p ys∧Q (.ref p) H))):=by
 intro pins s σ H xs us Q I r h
 obtain ⟨p,ys,rfl,h⟩:=h
 obtain ⟨u,rfl,rx⟩:=bJ r
 cases rx
 rcases h with ⟨hq,q⟩ | ⟨hq,q⟩
 ·obtain ⟨its,r',pl,hz⟩:=I.list hq
  have hlen:=r'.length
  refine call_tuple_list pl.isList (fun h' kp=>?_) (by simp only [List.size_toArray] <;> omega)
  have I1:Inv X pins σ H { s with heap:=h' }:=I.kept (t':=s.toks) kp
  have I2:Inv X pins σ (upd H h'.objs.size (.tup ys)) { s with heap:=h'.push { cls:=.type "tuple",data:=.seq its.toArray } } :=
   I1.laid (t':=s.toks) (fun b o e=>Heap.get?_push_of_some _ e) (Nat.le_refl _) (show ObjOk X.prog X.w _ _ _ (.tup ys) from ⟨hz,its,r',IsTupN.new _ _⟩)
  exact ⟨.ref h'.objs.size,_,I2,rfl,q _ (I1.hok.fresh (Nat.le_refl _))⟩
 ·obtain ⟨its,r',pl,hz⟩:=I.tuple hq
  exact call_tuple_same pl ⟨.ref p,H,I,rfl,q⟩
def tyV (K:PySem.W.Frag) (T:String) (x:V) (H:Hp):Prop:=match x with
 | .str _=>T="str"
 | .int _=>T="int"
 | .ref p=>(T="list"∧∃ xs,SqL K H p xs)∨(T="tuple"∧∃ o,K.lookup p=some o∧o.cls=.type "tuple"∧o.dict=none) ∨
   (T="dict"∧((∃ kvs,H p=some (.dK kvs))∨∃ kvs,H p=some (.dT kvs)))∨(T="set"∧∃ S n,H p=some (.set S n))
 | _=>False
theorem Af {pins:List (Addr × Obj)} {σ:St} {H:Hp} {s:Shared} {T:String} {x:V} {v:Value} (I:Inv X pins σ H s) (r:RelV x v) (ty:tyV X.K T x H) :
  s.TypeIs v T∧∀ a,v=.ref a→∃ ob,s.heap.get? a=some ob∧ob.dict=none:=by
 cases x with
 | str z =>
  obtain ⟨t,rfl⟩:=r
  cases (show T="str" from ty)
  exact ⟨typeIs_str s z t,fun _ e=>nomatch e⟩
 | int i =>
  obtain ⟨t,rfl⟩:=r
  cases (show T="int" from ty)
  exact ⟨typeIs_int s i t,fun _ e=>nomatch e⟩
 | ref p =>
  cases r
  rcases ty with ⟨rfl,xs,hq⟩ | ⟨rfl,o,hk,hc,hd⟩ | ⟨rfl,hk⟩ | ⟨rfl,S,n,hk⟩
  ·obtain ⟨its,_,pl,_⟩:=I.list hq
   refine ⟨pl.isList.typeIs,fun a e=>?_⟩
   cases e
   obtain ⟨o,n,e,c,hd,_⟩:=pl
   exact ⟨o,e,hd⟩
  ·refine ⟨⟨o,I.kIn p o hk,hc⟩,fun a e=>?_⟩
   cases e
   exact ⟨o,I.kIn _ o hk,hd⟩
  ·have z:∃ o,s.heap.get? p=some o∧o.ExactDict:=by
    rcases hk with ⟨kvs,hk⟩ | ⟨kvs,hk⟩
    ·obtain ⟨_,_,_,_,o,_,_,e,ex,_⟩:=I.hok p _ hk
     exact ⟨o,e,ex⟩
    ·obtain ⟨_,_,_,_,o,_,_,e,ex,_⟩:=I.hok p _ hk
     exact ⟨o,e,ex⟩
   obtain ⟨o,e,ex⟩:=z
   refine ⟨⟨o,e,ex.1⟩,fun a e2=>?_⟩
   cases e2
   exact ⟨o,e,ex.2.1⟩
  ·obtain ⟨o,_,_,_,e,ex,_⟩:=I.hok p _ hk
   refine ⟨⟨o,e,ex.1⟩,fun a e2=>?_⟩
   cases e2
   exact ⟨o,e,ex.2.1⟩
 | _=>exact False.elim ty
def tBM (K:PySem.W.Frag) (T:String) (r:V→List V→Hp→VK→Prop) (to:TE) (t:TA):TE:=fun σ H Q=>to σ H fun x H1=>tyV K T x H1∧t σ H1 fun xs H2=>r x xs H2 Q
variable {o e:Expr} {es:List Expr} {to:TE} {t:TA} {name:Str} {apos cpos:Pos} {T id:String} {r:V→List V→Hp→VK→Prop}
theorem mB (pa:PlainAttrs T) (slot:Slot T name id) (hty:typeOf (.builtin id)=pure (.type "method_descriptor")) (hm:MtR X id r) (ho:PE X o to) (ha:PA X (e :: es) t)
  (hbase:attributeBase o name X.env (eval o X.env)=eval o X.env:=by rfl)
  (hfew:((backTo cpos (starEach (e :: es) X.env)).all (fun x=>!x.1) && (backToKw cpos (keywordEach [] X.env)).all (fun x=>x.1.isSome)
   && decide ((e :: es).length+([]:List Keyword).length+(if ([]:List Keyword).isEmpty then 0 else 1) < 30))=true:=by rfl)
  (hline:(apos.endLine == cpos.line)=true:=by rfl) (hs:starEach (e :: es) X.env=(false,eval e X.env) :: starEach es X.env:=by rfl) (hplain:(backTo cpos (starEach es X.env)).any (·.1)=false:=by rfl) :
  PE X (.Call (.Attribute o name apos) (e :: es) [] cpos) (tBM X.K T r to t):=by
 intro pins s σ H Q I h
 refine wpAny_Call_method_late hbase hfew hline rfl (thn (ho pins s σ H _ I h) fun v s1 ⟨x,H1,I1,r1,ty,q1⟩=>?_)
 obtain ⟨h1,h2⟩:=Af I1 r1 ty
 refine ⟨T,id,pa,slot,hty,h1,h2,?_⟩
 have hA:=ha cpos pins s1 σ H1 _ I1 q1
 rw [hs] at hA ⊢
 refine Calls.callWith_builtin (by show (false || (backTo cpos (starEach es X.env)).any (·.1))=false; rw [hplain] <;> rfl) (Calls.evalArgs_plain ?_)
 exact thn hA fun us s2 ⟨vs,H2,I2,r2,q2⟩=>hm pins s2 σ H2 x vs v us Q I2 r1 r2 q2
end
end L2
namespace L2
open PySem PySem.Spec PyProof.Rows
def MtM (X:Cx) (id:String) (r:V→List V→Hp→VK→Prop):Prop :=
 ∀ (pins:List (Addr × Obj)) (s:Shared) (σ:St) (H:Hp) (x:V) (xs:List V) (v:Value) (us:List Value) (Q:VK),Inv X pins σ H s→RelV x v→Vals xs us→r x xs H Q →
  wpAny (model X.prog X.w) X.A (call (.builtin id) (v :: us)) (EP X pins σ Q) X.xe s
theorem Vals.one:∀ {x:V} {us:List Value},Vals [x] us→∃ u,us=[u]∧RelV x u
 | _,_,.cons r .nil=>⟨_,rfl,r⟩
theorem Vals.two {x y:V} {us:List Value} (h:Vals [x,y] us):∃ u v,us=[u,v]∧RelV x u∧RelV y v:=by
 cases h with
 | cons r t =>
  cases t with
  | cons q n =>
   cases n
   exact ⟨_,_,rfl,r,q⟩
theorem Vals.eraseIdx:∀ {xs:List V} {us:List Value} (i:Nat),Vals xs us→Vals (xs.eraseIdx i) (us.eraseIdx i)
 | _,_,_,.nil=>.nil
 | _,_,0,.cons _ t=>t
 | _,_,i+1,.cons r t=>.cons r (Vals.eraseIdx i t)
theorem jE {α:Type}:∀ (l:List α) (i:Nat),(l.eraseIdx i).length≤l.length
 | [],_=>Nat.le_refl _
 | _ :: _,0=>Nat.le_succ _
 | _ :: r,i+1=>Nat.succ_le_succ (jE r i)
section
variable {X:Cx} {pins:List (Addr × Obj)} {σ:St} {H:Hp} {s:Shared} {l b:Addr} {xs ys zs:List V}
theorem Inv.lset {its its':List Value} {n:Nat} {f:Array Value→Array Value} {t':Nat} (I:Inv X pins σ H s) (hH:H l=some (.lst xs))
  (e:s.heap.get? l=some { cls:=.type "list",data:=.seq its.toArray n }) (hf:f its.toArray=its'.toArray) (hv:Vals ys its') (hz:ys.length≤sizeLine) :
  Inv X pins σ (upd H l (.lst ys)) { s with heap:=s.heap.update l (Obj.mapSeq f),toks:=t' }:=by
 have q:=PySem.IsL.update e f
 rw [hf] at q
 refine I.write (x:=l) (e:=l) (by rw [hH]; exact trivial) (.inl rfl) (fun b' u hb hu=>(Heap.get?_update_other s.heap (Obj.mapSeq f) (Ne.symm hb)).trans hu) ⟨_,q⟩ ?_
 exact ⟨hz,its',_,hv,q⟩
theorem Inv.lnew {its:List Value} {t':Nat} (I:Inv X pins σ H s) (hv:Vals ys its) (hz:ys.length≤sizeLine) :
  Inv X pins σ (upd H s.heap.objs.size (.lst ys)) { s with heap:=s.heap.push { cls:=.type "list",data:=.seq its.toArray },toks:=t' } :=
 I.laid (fun _ _ q=>Heap.get?_push_of_some _ q) (Nat.le_refl _) ⟨hz,its,0,hv,Heap.get?_push_size _ rfl⟩
theorem Inv.fresh (I:Inv X pins σ H s):H s.heap.objs.size=none:=I.hok.fresh (Nat.le_refl _)
theorem Inv.lstM (I:Inv X pins σ H s) (hH:H l=some (.lst xs)):xs.length≤sizeLine∧∃ (its:List Value) (n:Nat),Vals xs its∧xs.length=its.length∧s.heap.get? l=some { cls:=.type "list",data:=.seq its.toArray n }:=by
 obtain ⟨z,its,n,r,e⟩:=I.hok l _ hH
 exact ⟨z,its,n,r,r.length,e⟩
end
section
variable {X:Cx}
def lN:V→List V→Hp→VK→Prop:=fun x vs H Q=>∃ l xs y,x=.ref l∧vs=[y]∧H l=some (.lst xs)∧xs.length < sizeLine∧Q .non (upd H l (.lst (xs++[y])))
theorem jC:MtM X "list.append" lN:=by
 intro pins s σ H x vs v us Q I rx rv h
 obtain ⟨l,xs,y,rfl,rfl,hH,hz,q⟩:=h
 cases rx
 obtain ⟨u,rfl,ru⟩:=rv.one
 obtain ⟨z,its,n,r,hl,e⟩:=I.lstM hH
 refine call_meets F.slot_list_append ⟨_,e,rfl⟩ F.entry_list_append (F.args_list_append_2 _ _) (PySem.list_append l its.toArray n u (by rw [List.size_toArray]; omega)) ⟨e,?_⟩
 refine ⟨.non,_,I.lset (its':=its++[u]) hH e (by simp) (r.append (.cons ru .nil)) ?_,rfl,q⟩
 rw [List.length_append,List.length_singleton]
 omega
def nF:V→List V→Hp→VK→Prop:=fun x vs H Q=>∃ l xs i k y,x=.ref l∧vs=[.int i]∧H l=some (.lst xs)∧-(2 ^ 63)≤i∧i < 2 ^ 63∧seqIndex? i xs.length=some k∧xs[k]?=some y∧Q y (upd H l (.lst (xs.eraseIdx k)))
theorem pF:MtM X "list.pop" nF:=by
 intro pins s σ H x vs v us Q I rx rv h
 obtain ⟨l,xs,i,k,y,rfl,rfl,hH,h1,h2,hk,hy,q⟩:=h
 cases rx
 obtain ⟨u,rfl,ru⟩:=rv.one
 obtain ⟨t,rfl⟩:=ru
 obtain ⟨z,its,n,r,hl,e⟩:=I.lstM hH
 obtain ⟨w,hw,rw'⟩:=r.get hy
 refine call_meets F.slot_list_pop ⟨_,e,rfl⟩ F.entry_list_pop (F.args_list_pop_2 _ _)
  (MeetsSeq.list_pop_at l its.toArray n i t k w (fitsIndex_both h1 h2) (by rw [List.size_toArray,← hl]; exact hk) (by rw [← Array.getElem?_toList]; exact hw) (by rw [List.size_toArray]; omega)) ⟨e,?_⟩
 refine ⟨y,_,I.lset (its':=its.eraseIdx k) hH e ?_ (r.eraseIdx k) ?_,rw',q⟩
 ·show its.toArray.eraseIdxIfInBounds k=(its.eraseIdx k).toArray
  rw [List.eraseIdxIfInBounds_toArray]
 ·have:=jE xs k
  omega
end
section
variable {prog:Program} {w:World} {A:Around} {E:Value→Shared→Prop} {s:Shared}
end
section
variable {X:Cx}
end
end L2
namespace Att
open PySem PySem.W PySem.Calls PyProof.Rows
theorem iQ {P:Params} {h:Heap}:∀ (ns:List Int) (vs:List Value),WellAll P h vs (ns.map WData.int)→IntsAre vs ns:=by
 intro ns
 induction ns with
 | nil =>
  intro vs w
  rw [List.map_nil] at w
  cases w
  exact .nil
 | cons n ns ih =>
  intro vs w
  rw [List.map_cons] at w
  cases w with
  | cons a b =>
   cases a
   exact .cons _ _ (ih _ b)
theorem nB {l:OpenLaw} {n:Nat} (hn:l.most=some n) {P:Params} {h:Heap} {args:List WData} {be:List Value}
  (hpre:l.row.toRowW.claim.pre args=true) (hwl:WellAll P h be args) :
  ∃ a vs ns,be=[Value.ref a]∧args=[WData.list (ns.map WData.int)]∧h.get? a=some { cls:=.type "list",data:=.seq vs.toArray }∧IntsAre vs ns∧ns.length≤n:=by
 have hsh:WShape.hasAll [] args [.list .int]=true:=(pre_splitW hpre).1
 have hc:l.pre.holds [] { args:=args }=true:=(pre_splitW hpre).2
 obtain ⟨d,r,rfl,h1,h2⟩:=hasAllW_cons hsh
 obtain rfl:=hasAllW_nil h2
 obtain ⟨xs,rfl,h3⟩:=hasW_list h1
 obtain ⟨ns,rfl⟩:=items_int h3
 have hlen:ns.length≤n:=by
  unfold OpenLaw.pre at hc
  have h4:(WTm.not (.lt (.lit (.int (n:Int))) (.len (.arg 0)))).holds [] { args:=[.list (ns.map .int)] }=true:=by
   have h4:=(holds_andW hc).1
   rw [hn] at h4
   exact h4
  have h5:=condW_of h4 (w_not (w_lt w_lit (w_len_list (w_arg rfl))))
  rw [List.length_map] at h5
  refine Nat.le_of_not_lt fun q=>?_
  have q':(n:Int) < ((ns.length:Nat):Int):=by omega
  first
   | (rw [decide_eq_true q'] at h5; exact absurd h5 (by decide))
   | (simp at h5; omega)
 cases hwl with
 | cons w1 w2 =>
  cases w2
  cases w1 with
  | list ho hall=>exact ⟨_,_,ns,rfl,rfl,ho,iQ ns _ hall,hlen⟩
theorem nH (l:OpenLaw) (args:List WData):l.row.toRowW.claim.post args (.bool true) args=true :=
 postW_of (r:=l.row.toRowW) (X:=(true == true))
  (show WShape.has [] (.bool true) .bool=true by first | rfl | decide | simp [WShape.has,WShape.arms,WShape.armsAll])
  (show (WTm.eq .res (.lit (.bool true))).value [] { args:=args,res:=some (.bool true),after:=args }=some (.bool (true == true)) from w_eq_bool (w_res rfl) w_lit) rfl
theorem attach_call {l:OpenLaw} {n:Nat} {q:Program} {loose:List Str} {XP:(Str→Option Value)→Heap→Prop} {YP:World→Heap→Prop} {d:DefRec}
  (hn:l.most=some n) (hdf:d.params.defaults=[])
  (call:∀ (w:World) (s₀ s₁:Shared) (mg mb:Str→Option Value) (fa:Addr) (o:Obj) (pm cd doc:Value) (a:Addr) (vs:List Value) (ns:List Int),
   Ground q loose [] XP w s₀ mg mb s₁.heap→YP w s₁.heap →
   s₁.heap.get? fa=some o→o.data=.func (docDef d.name d.params d.body d.scope pm cd doc)→s₁.heap.CodeRec cd d.name→mg d.name=some (.ref fa) →
   s₁.heap.get? a=some { cls:=.type "list",data:=.seq vs.toArray }→IntsAre vs ns→ns.length≤n→s₁.gens=#[] →
   codeAny (model l.prog w) callerA (.call (.ref fa) ⟨[.ref a],[]⟩) (fun r s'=>r=.ok (.ret (.bool true))∧OldK s₁.heap s'.heap∧s'.os=s₁.os∧AllBare s'.gens) s₁) :
  WalkO q loose XP YP l.row.toRowW d [] (fun f vs=>PySem.call f vs):=by
 intro w s₀ s₁ mg mb G Y fa o pm cd doc dV kV ho hd hcd hD hmg hg args be as hpre hlay hrd hwl hlo
 obtain rfl:dV=.none:=Dflts.none hD hdf
 obtain rfl:kV=.none:=Dflts.noKw hD
 obtain ⟨a,vs,ns,rfl,rfl,hobj,hints,hlen⟩:=nB hn hpre hwl
 refine enter_call (codeAny_mono (call w s₀ s₁ mg mb fa o pm cd doc a vs ns G Y ho (fd_plain hd) hcd hmg hobj hints hlen hg) fun r s' hq=>?_)
 obtain ⟨rfl,h2,h3,h4⟩:=hq
 exact ⟨.inl ⟨.bool true,.bool true,[],rfl,fun _=>rfl,.bool true,nH l _,fun _=>⟨List.Pairwise.nil,fun _ hm=>(nomatch hm)⟩⟩,h2,h3,h4⟩
section
variable {prog:Program} {w:World} {A:Around} {E:Value→Shared→Prop} {s:Shared} {K:Frag}
end
end Att
namespace L2
open PySem PySem.Spec PyProof.Rows
theorem jx:∀ {vs:List Value} {ns:List Int},IntsAre vs ns→Vals (ns.map V.int) vs
 | _,_,.nil=>.nil
 | _,_,.cons n t h=>.cons ⟨t,rfl⟩ (jx h)
def qx (H:Hp):Prop:=∀ b,H b=none∨∃ o xs,H b=some (.frz o (.lst xs))
theorem pI {P:Program} {w:World} {K:PySem.W.Frag} {mg mb:Str→Option Value} {CX:CXT} {k:Nat} {fa a:Addr} {fd:FuncData} {x:Str} {sp:Sp} {s₁:Shared} {vs:List Value} {ns:List Int}
  (KX:K.In s₁.heap) (hns:s₁.heap.Ns mainGlobals mg) (hb:s₁.heap.Ns builtinsNs mb) (hbb:∀ x:Str,x≠"__name__"→mb x=bootBuiltins x) (hlim:s₁.heap.NoLimit) (hmods:∃ mm,s₁.heap.Ns sysModules mm) (hg:s₁.gens=#[])
  (ha:s₁.heap.get? a=some { cls:=.type "list",data:=.seq vs.toArray }) (hi:IntsAre vs ns) (hl:ns.length≤sizeLine) (hr:Room k callerA)
  (F:∀ base:Heap,K.In base→base.Ns mainGlobals mg→FnOk P w K mg base CX k fa fd [x] sp) (hbind:∀ (s:Shared) (u:Value),BindsTo s fd ⟨[u],[]⟩ [(x,u)])
  (hsp:∀ H:Hp,qx H→SqL K H a (ns.map V.int)→sp [.ref a] H (fun v _=>v=.bl true) fun _ _ _=>False)
  (hCX:∀ H e s',CX [] H s₁ (fun _ _ _=>False) e s'→False) :
  codeAny (model P w) callerA (.call (.ref fa) ⟨[.ref a],[]⟩) (fun r s'=>r=.ok (.ret (.bool true))∧OldK s₁.heap s'.heap∧s'.os=s₁.os∧AllBare s'.gens) s₁:=by
 have rv:=jx hi
 have lenV:=hi.length
 have core:∀ H:Hp,qx H→SqL K H a (ns.map V.int)→HOk P w H s₁.heap→(∀ b,H b≠none→b=a)→(H a≠none→K.lookup a=none) →
   codeAny (model P w) callerA (.call (.ref fa) ⟨[.ref a],[]⟩) (fun r s'=>r=.ok (.ret (.bool true))∧OldK s₁.heap s'.heap∧s'.os=s₁.os∧AllBare s'.gens) s₁:=by
  intro H hO hS hok hA hK
  have base_of:∀ {b:Addr} {o:Obj},s₁.heap.get? b=some o→H b=none→(fM s₁.heap H).get? b=some o:=fun e n=>pU e n
  have noA:∀ {b:Addr} {o:Obj} {es:Array DictEntry} {ep:Nat},s₁.heap.get? b=some o→o.data=.dict es ep→H b=none:=fun {b o es ep} e d=>by
   cases q:H b with
   | none=>rfl
   | some u =>
    have e':b=a:=hA b (by rw [q]; simp)
    subst e'
    rw [ha] at e; cases e
    have d':Data.seq vs.toArray _=Data.dict es ep:=d
    cases d'
  have nsK:∀ {b:Addr} {m:Str→Option Value},s₁.heap.Ns b m→(fM s₁.heap H).Ns b m:=fun {b m} ⟨o,es,ep,e,d,r⟩=>⟨o,es,ep,base_of e (noA e d),d,r⟩
  have hKb:K.In (fM s₁.heap H):=fun b o e=>base_of (KX b o e) (by
   cases q:H b with
   | none=>rfl
   | some u =>
    have e':b=a:=hA b (by rw [q]; simp)
    subst e'
    rw [hK (by rw [q]; simp)] at e; cases e)
  have hM:Mod K mg (fM s₁.heap H):=⟨hKb,nsK hns,⟨mb,nsK hb,hbb⟩,let ⟨mc,h1,h2⟩:=hlim; ⟨mc,nsK h1,h2⟩,let ⟨mm,h1⟩:=hmods; ⟨mm,nsK h1⟩⟩
  have e0:Env0 P w K mg (fM s₁.heap H) callerA [] s₁ H:=⟨rfl,hM,fun b o e=>wY e,Nat.le_of_eq (oi _ _),trivial,fun b hb=>absurd (show b∈([]:List Addr) from hb) (by simp),hok,.of_eq hg⟩
  refine codeAny_mono ((F _ hKb (nsK hns)).run callerA [] s₁ H ⟨[.ref a],[]⟩ [.ref a] [.ref a] _ _ hr e0 (hbind s₁ (.ref a)) (.cons rfl .nil) (hsp H hO hS)) fun r s' h=>?_
  cases r with
  | error e=>exact (hCX H e s' h).elim
  | ok fl =>
   cases fl with
   | next=>exact False.elim h
   | brk=>exact False.elim h
   | cont=>exact False.elim h
   | ret u =>
    obtain ⟨v,H',os,bare,un,hok',r',q⟩:=h
    have q':v=.bl true:=q
    subst q'
    obtain rfl:u=Value.bool true:=r'
    refine ⟨rfl,OldK.of_keep fun b o e=>?_,os,bare⟩
    cases q:H b with
    | none=>exact un.keep b o e q (by intro z; exact absurd (show b∈([]:List Addr) from z) (by simp)) (by simp)
    | some u =>
     rcases hO b with z | ⟨ob,xs,z⟩
     ·rw [q] at z; cases z
     ·have z2:=un.frzs b ob _ z
      obtain ⟨e1,_⟩:=hok b _ z
      obtain ⟨e2,_⟩:=hok' b _ z2
      rw [e] at e1; cases e1
      exact e2
 cases hk:K.lookup a with
 | some o =>
  have e:=KX a o hk
  rw [ha] at e
  cases e
  refine core (fun _=>none) (fun _=>.inl rfl) (.inr ⟨_,vs.toArray,_,hk,rfl,rfl,rfl,by rw [List.size_toArray,lenV]; exact hl,by simpa using rv⟩) (fun b u z=>by have z':(none:Option HO)=some u:=z; cases z') (fun b z=>absurd rfl z) fun z=>absurd rfl z
 | none =>
  refine core (fun b=>if b=a then some (.frz { cls:=.type "list",data:=.seq vs.toArray } (.lst (ns.map V.int))) else none) (fun b=>?_) (.inl (.inr ⟨{ cls:=.type "list",data:=.seq vs.toArray },if_pos rfl⟩)) (fun b u z=>?_) (fun b z=>?_) fun _=>hk
  ·by_cases hb:b=a
   ·exact .inr ⟨_,_,if_pos hb⟩
   ·exact .inl (if_neg hb)
  ·by_cases hb:b=a
   ·have z':=(if_pos hb).symm.trans z
    cases z'
    subst hb
    exact ⟨ha,by rw [List.length_map]; exact hl,vs,_,rv,ha⟩
   ·have z':=(if_neg hb).symm.trans z
    cases z'
  ·by_cases hb:b=a
   ·exact hb
   ·exact absurd (if_neg hb) z
end L2
namespace L2
open PySem PySem.Spec PyProof.Rows
theorem walk_of {l:PySem.W.OpenLaw} {n k:Nat} {q:Program} {loose:List Str} {XP:(Str→Option Value)→Heap→Prop} {YP:World→Heap→Prop} {d:DefRec} {K:Params→PySem.W.Frag} {CX:World→CXT} {sp:World→Sp} {x:Str}
  (hn:l.most=some n) (hn2:n≤sizeLine) (hdf:d.params.defaults=[]) (hr:Room k callerA)
  (hq:importsNone q=true) (hY:∀ (w:World) (h:Heap),YP w h→(K w.params).In h)
  (F:∀ (w:World) (mg:Str→Option Value) (fa:Addr) (h:Heap),(K w.params).In h→h.Ns mainGlobals mg→mg d.name=some (.ref fa) →
   ∃ fd:FuncData,(∀ (s:Shared) (u:Value),BindsTo s fd ⟨[u],[]⟩ [(x,u)]) ∧
    ∀ base:Heap,(K w.params).In base→base.Ns mainGlobals mg→FnOk l.prog w (K w.params) mg base (CX w) k fa fd [x] (sp w))
  (hsp:∀ (w:World) (H:Hp) (a:Addr) (ns:List Int),ns.length≤n→qx H→SqL (K w.params) H a (ns.map V.int)→sp w [.ref a] H (fun v _=>v=.bl true) fun _ _ _=>False)
  (hCX:∀ (w:World) (H:Hp) (s:Shared) (e:Value) (s':Shared),CX w [] H s (fun _ _ _=>False) e s'→False) :
  PySem.W.WalkO q loose XP YP l.row.toRowW d [] (fun f vs=>PySem.call f vs):=by
 refine Att.attach_call hn hdf fun w s₀ s₁ mg mb fa o pm cd doc a vs ns G Y ho hd hcd hmg hobj hints hlen hg=>?_
 have KX:=hY w _ Y
 obtain ⟨fd,hb,hF⟩:=F w mg fa _ KX G.T.g hmg
 exact pI KX G.T.g G.T.b G.T.builtins G.T.nolimit (let ⟨mm,hm,_⟩:=(G.T.seer hq).mods; ⟨mm,hm⟩) hg hobj hints (Nat.le_trans hlen hn2) hr hF hb (fun H hO hS=>hsp w H a ns hlen hO hS) fun H e s'=>hCX w H s₁ e s'
end L2
namespace L2
open PySem PySem.Spec PyProof.Rows
def cP (s:Stmt):Arguments:=match s with
 | .FunctionDef _ a _ _ _ _ _ _ _ _=>a
 | _=>{ posonlyargs:=[],args:=[],vararg:=none,kwonlyargs:=[],kw_defaults:=[],kwarg:=none,defaults:=[] }
def bV (s:Stmt):List Stmt:=match s with
 | .FunctionDef _ _ b _ _ _ _ _ _ _=>b
 | _=>[]
def ay (s:Stmt):Scope:=match s with
 | .FunctionDef _ _ _ _ _ _ sc _ _ _=>sc
 | _=>{ kind:=.function,names:=[],isGenerator:=false,isCoroutine:=false }
abbrev CX0:CXT:=fun _ _ _ _ _ _=>False
abbrev E0:XK:=fun _ _ _=>False
theorem wj {X:Cx}:jb CX0 X E0:=fun _ _ _ _ _ _ _ h=>h.elim
structure Fun (K:PySem.W.Frag) (x qual:Str) (st:Stmt) (f:Addr) (fd:FuncData):Prop where
 ex:∃ (oc:Value) (od:Option Addr) (kV doc pm:Value) (an:Option Addr) (cdv ct:Value) (osl:Array (Option Value)),
  fd=PySem.W.fnOf x qual (cP st) (bV st) (ay st) .none kV doc pm an cdv ct∧K.lookup f=some ⟨oc,od,.func fd,osl⟩∧PySem.W.codeIn K cdv qual=true
 kp:PySem.W.keepIn K (.ref f)=true
section
variable {P:Program} {w:World} {K:PySem.W.Frag} {mg:Str→Option Value} {base:Heap}
theorem Fun.ok {x qual:Str} {st:Stmt} {f:Addr} {fd:FuncData} {N ps:List Str} {k:Nat} {sp:Sp} (F:Fun K x qual st f fd) (S:FnScope N ps (ay st)) (len:∀ vs H Q E,sp vs H Q E→vs.length=ps.length)
  (hbody:∀ (cdv:Value) (A:Around) (outer:List Env) (s:Shared) (H:Hp) (vs:List V) (Q:VK) (E:XK),Room k (A.deeper (envOfC qual (ay st) s.heap.objs.size f cdv))→sp vs H Q E →
   ∃ t,PSs (ig CX0 P w K mg base N qual (ay st) f cdv A outer s H E).nox (bV st) t∧t { nx:=fun _ H'=>Q .non H',rt:=Q } (cf N vs) H):FnOk P w K mg base CX0 (k+1) f fd ps sp:=by
 obtain ⟨oc,od,kV,doc,pm,an,cdv,ct,osl,rfl,lk,hcd⟩:=F.ex
 refine Cy lk hcd S len fun A outer s H vs Q E hr hsp=>?_
 obtain ⟨t,h,q⟩:=hbody cdv A outer s H vs Q E hr hsp
 exact ⟨t,h.nox,q⟩
theorem Fun.binds {x qual:Str} {st:Stmt} {f:Addr} {fd:FuncData} {ps:List Str} (F:Fun K x qual st f fd)
  (h:∀ (kV doc pm:Value) (an:Option Addr) (cdv ct:Value) (us:List Value),us.length=ps.length→bindArgs (PySem.W.fnOf x qual (cP st) (bV st) (ay st) .none kV doc pm an cdv ct) ⟨us,[]⟩=pure (ps.zip us)):Binds K fd ps []:=by
 obtain ⟨oc,od,kV,doc,pm,an,cdv,ct,osl,rfl,lk,hcd⟩:=F.ex
 exact .all (h kV doc pm an cdv ct)
theorem on {x qual:Str} {st:Stmt} {f:Addr} {oc:Value} {od an:Option Addr} {osl:Array (Option Value)} {kV doc pm cdv ct:Value} (l:K.lookup f=some ⟨oc,od,.func (PySem.W.fnOf x qual (cP st) (bV st) (ay st) .none kV doc pm an cdv ct),osl⟩)
  (c:PySem.W.codeIn K cdv qual=true) (k:PySem.W.keepIn K (.ref f)=true):Fun K x qual st f (PySem.W.fnOf x qual (cP st) (bV st) (ay st) .none kV doc pm an cdv ct):=⟨⟨oc,od,kV,doc,pm,an,cdv,ct,osl,rfl,l,c⟩,k⟩
end
theorem ww {A:Around} {k:Nat} (hr:Room k A):A.units+1 < cLine:=Nat.lt_of_le_of_lt (Nat.add_le_add_left (by decide:1≤64) _) hr.units
section
variable {X:Cx}
end
def B4 (H H':Hp):Prop:=∀ b o,H b=some o→H' b=some o
end L2
namespace L2
open PySem PySem.Spec PyProof.Rows
section
variable {κ:Type} [DecidableEq κ]
def cF (kvs:List (κ × V)) (k:κ):Option V:=(kvs.find? fun kv=>decide (kv.1=k)).map (·.2)
def cG (kvs:List (κ × V)) (k:κ) (v:V):List (κ × V) :=
 if (kvs.any fun kv=>decide (kv.1=k))=true then kvs.map (fun kv=>if kv.1=k then (kv.1,v) else kv) else kvs++[(k,v)]
theorem fy {p:κ × V} {r:List (κ × V)} {k:κ} (e:p.1=k):cF (p :: r) k=some p.2:=by simp [cF,List.find?_cons,e]
theorem fA {p:κ × V} {r:List (κ × V)} {k:κ} (e:¬ p.1=k):cF (p :: r) k=cF r k:=by simp [cF,List.find?_cons,e]
theorem ke (k:κ):∀ kvs:List (κ × V),(kvs.any fun kv=>decide (kv.1=k))=(cF kvs k).isSome
 | []=>rfl
 | p :: r=>by
  rw [List.any_cons]
  by_cases e:p.1=k
  ·simp only [fy e,decide_eq_true e,Bool.true_or,Option.isSome_some]
  ·rw [fA e,decide_eq_false e,Bool.false_or]; exact ke k r
theorem gX (kvs:List (κ × V)) (k:κ) (v:V):(cG kvs k v).length≤kvs.length+1:=by
 unfold cG
 split
 ·rw [List.length_map]; omega
 ·rw [List.length_append,List.length_cons,List.length_nil]; omega
theorem RelO.isSome_eq {o:Option V} {u:Option Value} (r:RelO o u):o.isSome=u.isSome:=by
 cases o with
 | none=>cases u with
  | none=>rfl
  | some _=>exact (show False from r).elim
 | some _=>cases u with
  | none=>exact (show False from r).elim
  | some _=>rfl
theorem KV.val {kvs:List (κ × V)} {vs:List (κ × Value)} (r:KV kvs vs) (k:κ):RelO (cF kvs k) (valueAt vs k):=by
 unfold KV at r
 induction r with
 | nil=>exact True.intro
 | @cons p q ps qs h t ih =>
  obtain ⟨h1,h2⟩:=h
  by_cases e:p.1=k
  ·have e':q.1=k:=h1.symm.trans e
   have b:valueAt (q :: qs) k=some q.2:=by simp [valueAt,List.find?_cons,e']
   rw [fy e,b]; exact h2
  ·have e':¬ q.1=k:=fun z=>e (h1.trans z)
   have b:valueAt (q :: qs) k=valueAt qs k:=by simp [valueAt,List.find?_cons,e']
   rw [fA e,b]; exact ih
theorem KV.any {kvs:List (κ × V)} {vs:List (κ × Value)} (r:KV kvs vs) (k:κ):(kvs.any fun kv=>decide (kv.1=k))=vs.any fun kv=>decide (kv.1=k):=by
 unfold KV at r
 induction r with
 | nil=>rfl
 | cons h t ih=>rw [List.any_cons,List.any_cons,ih,h.1]
theorem KV.repl {kvs:List (κ × V)} {vs:List (κ × Value)} (r:KV kvs vs) (k:κ) {y:V} {u:Value} (ry:RelV y u) :
  KV (kvs.map fun kv=>if kv.1=k then (kv.1,y) else kv) (vs.map fun kv=>if kv.1=k then (kv.1,u) else kv):=by
 unfold KV at r ⊢
 induction r with
 | nil=>exact .nil
 | @cons p q ps qs h t ih =>
  rw [List.map_cons,List.map_cons]
  refine .cons ?_ ih
  obtain ⟨h1,h2⟩:=h
  by_cases e:p.1=k
  ·rw [if_pos e,if_pos (h1.symm.trans e)]; exact ⟨h1,ry⟩
  ·rw [if_neg e,if_neg (fun z=>e (h1.trans z))]; exact ⟨h1,h2⟩
theorem KV.put {kvs:List (κ × V)} {vs:List (κ × Value)} (r:KV kvs vs) (k:κ) {y:V} {u:Value} (ry:RelV y u):KV (cG kvs k y) (stored vs k u):=by
 unfold cG stored
 rw [r.any k]
 by_cases e:(vs.any fun kv=>decide (kv.1=k))=true
 ·rw [if_pos e,if_pos e]; exact r.repl k ry
 ·rw [if_neg e,if_neg e]; exact Paired.snoc r ⟨rfl,ry⟩
theorem KV.length {kvs:List (κ × V)} {vs:List (κ × Value)} (r:KV kvs vs):kvs.length=vs.length:=Paired.length r
end
theorem mL {P:Program} {w:World} {k:Key} {u:Value} (r:RelV (kV k) u):(bm P w).is k u=true:=by
 cases k with
 | inl i=>obtain ⟨t,e⟩:=(show ∃ t,u=Value.int i t from r); subst e; exact lC P w i t
 | inr x=>obtain ⟨t,e⟩:=(show ∃ t,u=Value.str x t from r); subst e; exact lB P w x t
theorem jF {P:Program} {w:World}:∀ {ks:List Key} {us:List Value},Vals (ks.map kV) us→ItemsAre (bm P w) ks us
 | [],_,r=>by rw [List.map_nil] at r; cases r; exact .nil
 | k :: ks,_,r=>by
  rw [List.map_cons] at r
  cases r with
  | cons h t=>exact .cons (mL h) (jF t)
abbrev KT (H:Hp):List (List Key × V)→List (List Key × Addr × Value)→Prop:=Paired fun p q=>p.1=q.1∧H q.2.1=some (.tup (p.1.map kV))∧RelV p.2 q.2.2
theorem KT.val {H:Hp} {kvs:List (List Key × V)} {xs:List (List Key × Addr × Value)} (r:KT H kvs xs) (k:List Key):RelO (cF kvs k) ((atKey xs k).map (·.2)):=by
 induction r with
 | nil=>exact True.intro
 | @cons p q ps qs h t ih =>
  obtain ⟨h1,_,h2⟩:=h
  by_cases e:p.1=k
  ·have e':q.1=k:=h1.symm.trans e
   have b:atKey (q :: qs) k=some q.2:=by simp [atKey,List.find?_cons,e']
   rw [fy e,b]; exact h2
  ·have e':¬ q.1=k:=fun z=>e (h1.trans z)
   have b:atKey (q :: qs) k=atKey qs k:=by simp [atKey,List.find?_cons,e']
   rw [fA e,b]; exact ih
theorem KT.repl {H:Hp} {kvs:List (List Key × V)} {xs:List (List Key × Addr × Value)} (r:KT H kvs xs) (k:List Key) {y:V} {u:Value} (ry:RelV y u) :
  KT H (kvs.map fun kv=>if kv.1=k then (kv.1,y) else kv) (xs.map (putAt k u)):=by
 induction r with
 | nil=>exact .nil
 | @cons p q ps qs h t ih =>
  rw [List.map_cons,List.map_cons]
  refine .cons ?_ ih
  obtain ⟨h1,h2,h3⟩:=h
  unfold putAt
  by_cases e:p.1=k
  ·rw [if_pos e,if_pos (h1.symm.trans e)]; exact ⟨h1,h2,ry⟩
  ·rw [if_neg e,if_neg (fun z=>e (h1.trans z))]; exact ⟨h1,h2,h3⟩
theorem KT.put {H:Hp} {kvs:List (List Key × V)} {xs:List (List Key × Addr × Value)} (r:KT H kvs xs) (k:List Key) {b:Addr} {y:V} {u:Value} (hb:H b=some (.tup (k.map kV))) (ry:RelV y u) :
  KT H (cG kvs k y) (storedH xs k b u):=by
 have e:(kvs.any fun kv=>decide (kv.1=k))=(atKey xs k).isSome:=by
  rw [ke,(r.val k).isSome_eq,Option.isSome_map]
 unfold cG storedH
 rw [e]
 by_cases q:(atKey xs k).isSome=true
 ·rw [if_pos q,if_pos q]; exact r.repl k ry
 ·rw [if_neg q,if_neg q]; exact Paired.snoc r ⟨rfl,hb,ry⟩
theorem KT.keeps {H H':Hp} {kvs:List (List Key × V)} {xs:List (List Key × Addr × Value)} (r:KT H kvs xs) (ht:∀ b ys,H b=some (.tup ys)→H' b=some (.tup ys)):KT H' kvs xs :=
 Paired.mapP r fun _ _ z=>⟨z.1,ht _ _ z.2.1,z.2.2⟩
section
variable {P:Program} {w:World} {H:Hp} {h:Heap} {a:Addr}
theorem wa {u:HO} (ok:HOk P w H h) (e:Rd H a u):ObjOk P w H h a u:=e.ok ok
theorem wA {kvs:List (Key × V)} (ok:HOk P w H h) (e:Rd H a (.dK kvs)):kvs.length≤sizeLine∧(a == sysModules)=false∧∃ vs,KV kvs vs∧h.DictOf (bm P w) a vs :=
 show ObjOk P w H h a (.dK kvs) from wa ok e
theorem i4 {kvs:List (Key × V)} (ok:HOk P w H h) (e:H a=some (.dK kvs)):kvs.length≤sizeLine∧(a == sysModules)=false∧∃ vs,KV kvs vs∧h.DictOf (bm P w) a vs:=wA ok (.inl e)
theorem iK {ks:List Key} (ok:HOk P w H h) (e:H a=some (.tup (ks.map kV))):(tupleKind (bm P w)).is h ks a:=by
 obtain ⟨_,its,r,o,h1,h2,n,h3⟩:=(show ObjOk P w H h a (.tup (ks.map kV)) from ok a _ e)
 exact ⟨o,its.toArray,n,h1,h2,h3.1,by simpa using jF r⟩
theorem wz {kvs:List (List Key × V)} (ok:HOk P w H h) (e:Rd H a (.dT kvs)):kvs.length≤sizeLine∧(a == sysModules)=false ∧
  ∃ xs,KT H kvs xs∧h.DictOfH (tupleKind (bm P w)) a xs:=by
 obtain ⟨z,y,xs,r,o,es,ep,h1,h2,h3,h4,h5⟩:=(show ObjOk P w H h a (.dT kvs) from wa ok e)
 refine ⟨z,y,xs,r,o,es,ep,h1,h2,h3,h4,fun x hx=>?_,h5⟩
 have all:∀ {l:List (List Key × V)} {m:List (List Key × Addr × Value)},KT H l m→∀ x∈m,(tupleKind (bm P w)).is h x.1 x.2.1:=by
  intro l m q
  induction q with
  | nil=>intro x hx; exact nomatch hx
  | @cons p q ps qs hq t ih =>
   intro x hx
   rcases List.mem_cons.mp hx with e | hx
   ·subst e
    exact iK ok (by rw [← hq.1]; exact hq.2.1)
   ·exact ih x hx
 exact all r x hx
theorem j9 {kvs:List (List Key × V)} (ok:HOk P w H h) (e:H a=some (.dT kvs)):kvs.length≤sizeLine∧(a == sysModules)=false ∧
  ∃ xs,KT H kvs xs∧h.DictOfH (tupleKind (bm P w)) a xs:=wz ok (.inl e)
end
def DGet (H:Hp) (a:Addr) (y:V) (r:Option V):Prop :=
 (∃ kvs k,Rd H a (.dK kvs)∧y=kV k∧r=cF kvs k)∨∃ kvs k b,Rd H a (.dT kvs)∧y=.ref b∧H b=some (.tup (k.map kV))∧r=cF kvs k
def DPut (H:Hp) (a:Addr) (y v:V) (H':Hp):Prop :=
 (∃ kvs k,H a=some (.dK kvs)∧y=kV k∧kvs.length < sizeLine∧H'=upd H a (.dK (cG kvs k v))) ∨
 ∃ kvs k b,H a=some (.dT kvs)∧y=.ref b∧H b=some (.tup (k.map kV))∧kvs.length < sizeLine∧H'=upd H a (.dT (cG kvs k v))
theorem DGet.k {H:Hp} {a:Addr} {kvs:List (Key × V)} {k:Key} (e:H a=some (.dK kvs)):DGet H a (kV k) (cF kvs k):=.inl ⟨kvs,k,.inl e,rfl,rfl⟩
theorem DPut.k {H:Hp} {a:Addr} {kvs:List (Key × V)} {k:Key} {v:V} (e:H a=some (.dK kvs)) (hl:kvs.length < sizeLine):DPut H a (kV k) v (upd H a (.dK (cG kvs k v))):=.inl ⟨kvs,k,e,rfl,hl,rfl⟩
section
variable {X:Cx} {pins:List (Addr × Obj)} {σ:St} {H:Hp} {s:Shared} {a:Addr} {y v:V} {u r:Value} {o:Option V} {A:Around} {E:Value→Shared→Prop}
theorem Inv.big (I:Inv X pins σ H s):sysModules < s.heap.objs.size:=by
 have h:mainGlobals < s.heap.objs.size:=(I.mod.glob.keeps I.bk).lt
 exact Nat.lt_trans (by decide) h
theorem Dd {Q:Value→Shared→Prop} (hu:A.units+1 < cLine) (I:Inv X pins σ H s) (g:DGet H a y o) (ry:RelV y u) (h:∀ s',Inv X pins σ H s'→Q (.bool o.isSome) s') :
  wpAny (model X.prog X.w) A (compareOp .In u (.ref a)) Q E s:=by
 rcases g with ⟨kvs,k,e,ey,l⟩ | ⟨kvs,k,b,e,ey,eb,l⟩
 ·subst ey
  obtain ⟨z,hd,vs,rel,dd⟩:=wA I.hok e
  refine wpAny_in_of (mL ry) hd dd.mapOf ?_
  rw [← (rel.val k).isSome_eq,← l]
  exact h _ (I.tok _)
 ·subst ey
  cases (show u=Value.ref b from ry)
  obtain ⟨z,hd,xs,rel,dd⟩:=wz I.hok e
  refine wpAny_in_heap (tupleKind_room_in1 hu) (iK I.hok eb) hd dd ?_
  have q:=(rel.val k).isSome_eq
  rw [Option.isSome_map] at q
  rw [← q,← l]
  exact h _ (I.tok _)
theorem jr {h':Heap} {t':Nat} {ob:HO} (I:Inv X pins σ H s) (mu:Mut (H a)) (hs:Heap.SameBut a s.heap h') (he:∃ q,h'.get? a=some q) (new:ObjOk X.prog X.w (upd H a ob) h' a ob) :
  Inv X pins σ (upd H a ob) { s with heap:=h',toks:=t' } :=
 I.write (x:=a) (e:=a) mu (.inl rfl) (fun b q hb z=>(hs.2 b hb).trans z) he new
theorem BV {P:Program} {w:World} {H':Hp} {h':Heap} {kvs:List (Key × V)} {vs:List (Key × Value)} (z:kvs.length≤sizeLine) (hd:(a == sysModules)=false) (rel:KV kvs vs) (dd:h'.DictOf (bm P w) a vs) :
  ObjOk P w H' h' a (.dK kvs):=⟨z,hd,vs,rel,dd⟩
theorem oO {H':Hp} {Q:Unit→Shared→Prop} (hu:A.units+1 < cLine) (I:Inv X pins σ H s) (g:DPut H a y v H') (ry:RelV y u) (rv:RelV v r) (h:∀ s',Inv X pins σ H' s'→Q () s') :
  wpAny (model X.prog X.w) A (setItem (.ref a) u r) Q E s:=by
 rcases g with ⟨kvs,k,e,ey,l,eH⟩ | ⟨kvs,k,b,e,ey,eb,l,eH⟩
 ·subst ey eH
  obtain ⟨z,hd,vs,rel,dd⟩:=i4 I.hok e
  have hz:vs.length≤sizeLine:=by rw [← rel.length]; exact z
  have hl:(cG kvs k v).length≤sizeLine:=by have:=gX kvs k v; omega
  refine wpAny_setItem_pairs (hsz:=hz) (mL ry) dd fun h' dd' hs=>h _ ?_
  have he:∃ q,h'.get? a=some q:=let ⟨q,_,_,hq,_⟩:=dd'; ⟨q,hq⟩
  exact jr I (by rw [e]; exact True.intro) hs he (BV hl hd (rel.put k rv) dd')
 ·subst ey eH
  cases (show u=Value.ref b from ry)
  obtain ⟨z,hd,xs,rel,dd⟩:=j9 I.hok e
  have hz:xs.length≤sizeLine:=by rw [← Paired.length rel]; exact z
  have hl:(cG kvs k v).length≤sizeLine:=by have:=gX kvs k v; omega
  refine wpAny_setItem_heap (hsz:=hz) (tupleKind_room_in1 hu) (iK I.hok eb) dd fun h' dd' hs=>h _ ?_
  obtain ⟨q,es,ep,hq,h2,h3,h4,_,h5⟩:=dd'
  refine jr I (by rw [e]; exact True.intro) hs ⟨q,hq⟩ ⟨hl,hd,_,(rel.put k eb rv).keeps fun c ys ec=>?_,q,es,ep,hq,h2,h3,h4,h5⟩
  rw [aP (wm ec e (fun z=>nomatch z))]
  exact ec
end
section
variable {X:Cx} {pins:List (Addr × Obj)} {σ:St} {H:Hp} {s:Shared} {a:Addr} {kvs:List (Key × V)} {k:Key} {u:Value} {A:Around} {E:Value→Shared→Prop}
end
def Ao (ty td:TE):TE:=fun σ H Q=>ty σ H fun y H1=>td σ H1 fun x H2=>∃ a o,x=.ref a∧DGet H2 a y o∧Q (.bl o.isSome) H2
def wD (ty td:TE):TE:=fun σ H Q=>ty σ H fun y H1=>td σ H1 fun x H2=>∃ a o,x=.ref a∧DGet H2 a y o∧Q (.bl (!o.isSome)) H2
def v9 (td ty tv:TE):TS:=fun D σ H=>tv σ H fun v H1=>td σ H1 fun x H2=>ty σ H2 fun y H3=>∃ a H4,x=.ref a∧DPut H3 a y v H4∧D.nx σ H4
section
variable {X:Cx} {o i e value:Expr} {pos pos' tpos:Pos} {td ty tv:TE}
theorem AR (hu:X.A.units+1 < cLine) (hi:PE X i ty) (ho:PE X o td):PC X .In i o (Ao ty td):=by
 intro pins s σ H Q I h
 refine thn (hi pins s σ H _ I h) fun iv s1 ⟨y,H1,I1,ry,q1⟩=>thn (ho pins s1 σ H1 _ I1 q1) fun u s2 ⟨x,H2,I2,rx,a,ov,ex,g,q2⟩=>?_
 subst ex
 obtain rfl:u=Value.ref a:=rx
 exact Dd hu I2 g ry fun s3 I3=>⟨.bl ov.isSome,H2,I3,rfl,q2⟩
theorem wN (hu:X.A.units+1 < cLine) (ho:PE X o td) (hi:PE X i ty) (hv:PE X value tv) (hs:swapsWith value (some (.Subscript o i pos')) pos.line X.env=pure false) :
  PS X (.Assign [.Subscript o i pos'] value pos) (v9 td ty tv):=by
 intro pins s σ H D I h
 refine wpAny_Assign_Subscript (thn (hv pins s σ H _ I h) fun r s1 ⟨v,H1,I1,rv,q1⟩=>thn (ho pins s1 σ H1 _ I1 q1) fun u s2 ⟨x,H2,I2,rx,q2⟩=>thn (hi pins s2 σ H2 _ I2 q2) fun iv s3 ⟨y,H3,I3,ry,a,H4,ex,g,q3⟩=>?_) hs
 subst ex
 obtain rfl:u=Value.ref a:=rx
 exact oO hu I3 g ry rv fun s4 I4=>⟨σ,H4,I4,q3⟩
end
theorem qm {P:Program} {w:World} {H:Hp} (h:Heap) (hb:sysModules < h.objs.size):ObjOk P w H (h.push { cls:=.type "dict",data:=.dict #[] }) h.objs.size (.dK []) :=
 ⟨Nat.zero_le _,beq_eq_false_iff_ne.mpr (Ne.symm (Nat.ne_of_lt hb)),[],.nil,Heap.DictOf.new h⟩
theorem ql {P:Program} {w:World} {H:Hp} (h:Heap) (hb:sysModules < h.objs.size):ObjOk P w H (h.push { cls:=.type "dict",data:=.dict #[] }) h.objs.size (.dT []) :=
 ⟨Nat.zero_le _,beq_eq_false_iff_ne.mpr (Ne.symm (Nat.ne_of_lt hb)),[],.nil,_,#[],0,Heap.get?_push_size _ rfl,⟨rfl,rfl,rfl⟩,rfl,rfl,List.nodup_nil⟩
def An:TE:=fun _ H Q=>∀ p,H p=none→Q (.ref p) (upd H p (.dK []))
section
variable {X:Cx} {pos:Pos}
theorem pe_dnewK:PE X (.Dict [] [] pos) An:=fun pins s σ H Q I h =>
 wpAny_Dict_empty ⟨.ref s.heap.objs.size,_,I.laid (a:=s.heap.objs.size) (o:=.dK []) (t':=s.toks) (fun _ _ q=>Heap.get?_push_of_some _ q) (Nat.le_refl _) (qm s.heap I.big),rfl,h _ (I.hok.fresh (Nat.le_refl _))⟩
end
def kg:List (TE × TE)→St→Hp→(List (V × V)→Hp→Prop)→Prop
 | [],_,H,Q=>Q [] H
 | (tk,tv) :: r,σ,H,Q=>tk σ H fun x H1=>tv σ H1 fun y H2=>kg r σ H2 fun ps H3=>Q ((x,y) :: ps) H3
abbrev VV:List (V × V)→List (Value × Value)→Prop:=Paired fun p q=>RelV p.1 q.1∧RelV p.2 q.2
def PPs (X:Cx) (pos:Pos) (keys:List (Option Expr)) (values:List Expr) (trs:List (TE × TE)):Prop :=
 ∀ (pins:List (Addr × Obj)) (s:Shared) (σ:St) (H:Hp) (Q:List (V × V)→Hp→Prop),Inv X pins σ H s→kg trs σ H Q →
  wpAny (model X.prog X.w) X.A (evalPairs (pairTrees keys values X.env pos)) (fun vs s'=>∃ ps H',Inv X pins σ H' s'∧VV ps vs∧Q ps H') X.xe s
theorem wO {X:Cx} {pos:Pos}:PPs X pos [] [] []:=fun pins s σ H Q I h=>pairTrees_nil_walk ⟨[],H,I,.nil,h⟩
theorem pq {X:Cx} {pos:Pos} {k v:Expr} {ks:List (Option Expr)} {vs:List Expr} {tk tv:TE} {trs:List (TE × TE)} (hk:PE X k tk) (hv:PE X v tv) (hr:PPs X pos ks vs trs) :
  PPs X pos (some k :: ks) (v :: vs) ((tk,tv) :: trs):=fun pins s σ H Q I h =>
 pairTrees_cons_walk (thn (hk pins s σ H _ I h) fun u s1 ⟨x,H1,I1,rx,q1⟩=>thn (hv pins s1 σ H1 _ I1 q1) fun w2 s2 ⟨y,H2,I2,ry,q2⟩ =>
  thn (hr pins s2 σ H2 _ I2 q2) fun ws s3 ⟨ps,H3,I3,rel,q3⟩=>⟨(x,y) :: ps,H3,I3,.cons ⟨rx,ry⟩ rel,q3⟩)
section
variable {X:Cx} {pins:List (Addr × Obj)} {σ:St} {H:Hp} {s:Shared} {a:Addr} {y d:V} {u r:Value} {o:Option V} {A:Around} {E:Value→Shared→Prop}
end
section
variable {X:Cx} {o e f:Expr} {apos cpos:Pos} {td ty tx:TE}
end
section
variable {X:Cx} {pins:List (Addr × Obj)} {σ:St} {H:Hp} {s:Shared} {a:Addr} {kvs:List (Key × V)} {A:Around} {E:Value→Shared→Prop}
end
section
variable {X:Cx} {pins:List (Addr × Obj)} {σ:St} {H:Hp} {s:Shared} {a:Addr} {y:V} {u:Value} {A:Around} {E:Value→Shared→Prop}
end
end L2
namespace L2
open PySem PySem.Spec PyProof.Rows
section
variable {X:Cx}
end
section
variable {κ:Type} [DecidableEq κ]
end
end L2
set_option maxHeartbeats 4000000
namespace L2
open PySem PySem.Spec PyProof.Rows
theorem xy {α β:Type} {l:List α} {f:α→β→Sem (ForInStep β)} {g:β→α→β} (h:∀ x∈l,∀ c,f x c=pure (.yield (g c x))):∀ c,forIn l c f=pure (l.foldl g c):=by
 induction l with
 | nil=>intro c; rfl
 | cons x l ih =>
  intro c
  rw [List.forIn_cons,h x List.mem_cons_self,pure_bind]
  exact ih (fun y hy=>h y (List.mem_cons_of_mem _ hy)) (g c x)
def cC (env:Env) (acc:List (Str × Addr)) (x:Str × NameKind):List (Str × Addr) :=
 if x.2 == NameKind.free then (x.1,(env.cells.lookup x.1).getD 0) :: acc else acc
def cc (env:Env) (names:List (Str × NameKind)):List (Str × Addr):=names.foldl (cC env) []
theorem i7 {scope:Scope} {env:Env} (h:∀ y∈scope.names,y.2=.free→∃ c,env.cells.lookup y.1=some c):closureFor scope env=pure (cc env scope.names):=by
 simp only [closureFor]
 rw [xy (g:=cC env) (fun x hx c=>by
  obtain ⟨n,kind⟩:=x
  by_cases hk:kind=.free
  ·obtain ⟨a,e⟩:=h _ hx hk
   subst hk
   have e':env.cells.lookup n=some a:=e
   simp [cellOf,cC,e']
  ·have hb:(kind == NameKind.free)=false:=by simpa using hk
   simp [cC,hb])]
 rfl
theorem i8 {env:Env}:∀ (names:List (Str × NameKind)) (acc:List (Str × Addr)) (p:Str × Addr),
  p∈names.foldl (cC env) acc→p∈acc∨((p.1,NameKind.free)∈names∧p.2=(env.cells.lookup p.1).getD 0)
 | [],_,_,h=>.inl h
 | (n,k) :: r,acc,p,h=>by
  rw [List.foldl_cons] at h
  rcases i8 r _ p h with q | ⟨q,e⟩
  ·unfold cC at q
   by_cases hk:(k == NameKind.free)=true
   ·rw [if_pos hk] at q
    rcases List.mem_cons.mp q with z | z
    ·subst z
     have hk':k=NameKind.free:=by simpa using hk
     subst hk'
     exact .inr ⟨List.mem_cons_self,rfl⟩
    ·exact .inl z
   ·rw [if_neg hk] at q
    exact .inl q
  ·exact .inr ⟨List.mem_cons_of_mem _ q,e⟩
theorem gZ {env:Env}:∀ (names:List (Str × NameKind)) (acc:List (Str × Addr)) (p:Str × Addr),p∈acc→p∈names.foldl (cC env) acc
 | [],_,_,h=>h
 | x :: r,acc,p,h=>by
  rw [List.foldl_cons]
  refine gZ r _ p ?_
  unfold cC
  split
  ·exact List.mem_cons_of_mem _ h
  ·exact h
theorem i9 {env:Env} {n:Str}:∀ (names:List (Str × NameKind)) (acc:List (Str × Addr)),(n,NameKind.free)∈names→∃ c,(n,c)∈names.foldl (cC env) acc
 | (m,k) :: r,acc,h=>by
  rw [List.foldl_cons]
  rcases List.mem_cons.mp h with e | e
  ·cases e
   exact ⟨(env.cells.lookup n).getD 0,gZ r _ _ (by unfold cC; rw [if_pos (show (((n,NameKind.free):Str × NameKind).2 == NameKind.free)=true from rfl)]; exact List.mem_cons_self)⟩
  ·exact i9 r _ e
theorem dy {α:Type}:∀ {l:List (Str × α)} {n:Str} {c:α},(n,c)∈l→∃ c',l.lookup n=some c'
 | (m,d) :: r,n,c,h=>by
  rw [List.lookup_cons]
  cases hb:n == m with
  | true=>exact ⟨d,rfl⟩
  | false =>
   rcases List.mem_cons.mp h with e | e
   ·cases e
    simp at hb
   ·exact dy e
theorem k9 {env:Env} {names:List (Str × NameKind)} {n:Str} (h:(n,NameKind.free)∈names):∃ c,(cc env names).lookup n=some c :=
 let ⟨_,e⟩:=i9 (env:=env) names [] h
 dy e
theorem jJ {env:Env} {names:List (Str × NameKind)} {n:Str} {c:Addr} (h:∀ y∈names,y.2=.free→∃ c,env.cells.lookup y.1=some c) (e:(cc env names).lookup n=some c):env.cells.lookup n=some c:=by
 rcases i8 names [] (n,c) (PySem.mem_of_lookup e) with q | ⟨q,z⟩
 ·simp at q
 ·obtain ⟨a,ea⟩:=h _ q rfl
  have z':c=(env.cells.lookup n).getD 0:=z
  have ea':env.cells.lookup n=some a:=ea
  rw [ea'] at z'
  rw [ea',z']
  rfl
theorem fF {env:Env}:∀ {names:List (Str × NameKind)} {x:Str} {k:NameKind},
  (names.map fun (n,k)=>if (k == NameKind.free && env.scope.kind == .function && env.kindOf n == some .cell) then (n,NameKind.cell) else (n,k)).lookup x=some k →
  names.lookup x=some k∨(names.lookup x=some .free∧k=.cell)
 | [],_,_,h=>by simp at h
 | (n,k0) :: r,x,k,h=>by
  rw [List.map_cons] at h
  cases hx:x == n with
  | true =>
   rcases Bool.eq_false_or_eq_true (k0 == NameKind.free && env.scope.kind == .function && env.kindOf n == some .cell) with hc | hc
   ·simp only [hc,if_true,List.lookup_cons,hx] at h
    have hk:k0=.free:=by
     simp only [Bool.and_eq_true,beq_iff_eq] at hc
     exact hc.1.1
    refine .inr ⟨?_,?_⟩
    ·simp only [List.lookup_cons,hx,hk]
    ·exact (Option.some.inj h).symm
   ·simp only [hc,Bool.false_eq_true,if_false,List.lookup_cons,hx] at h
    refine .inl ?_
    simp only [List.lookup_cons,hx]
    exact h
  | false =>
   have h':(r.map fun (n,k)=>if (k == NameKind.free && env.scope.kind == .function && env.kindOf n == some .cell) then (n,NameKind.cell) else (n,k)).lookup x=some k:=by
    rcases Bool.eq_false_or_eq_true (k0 == NameKind.free && env.scope.kind == .function && env.kindOf n == some .cell) with hc | hc
    ·simp only [hc,if_true,List.lookup_cons,hx] at h
     exact h
    ·simp only [hc,Bool.false_eq_true,if_false,List.lookup_cons,hx] at h
     exact h
   simp only [List.lookup_cons,hx]
   exact fF h'
theorem iC {env:Env}:∀ {names:List (Str × NameKind)} {x:Str},names.lookup x=some .free →
  (names.map fun (n,k)=>if (k == NameKind.free && env.scope.kind == .function && env.kindOf n == some .cell) then (n,NameKind.cell) else (n,k)).lookup x=some .cell ∨
  (names.map fun (n,k)=>if (k == NameKind.free && env.scope.kind == .function && env.kindOf n == some .cell) then (n,NameKind.cell) else (n,k)).lookup x=some .free
 | [],_,h=>by simp at h
 | (n,k0) :: r,x,h=>by
  rw [List.map_cons]
  cases hx:x == n with
  | true =>
   simp only [List.lookup_cons,hx] at h
   rcases Bool.eq_false_or_eq_true (k0 == NameKind.free && env.scope.kind == .function && env.kindOf n == some .cell) with hc | hc
   ·refine .inl ?_
    simp only [hc,if_true,List.lookup_cons,hx]
   ·refine .inr ?_
    simp only [hc,Bool.false_eq_true,if_false,List.lookup_cons,hx]
    exact h
  | false =>
   simp only [List.lookup_cons,hx] at h
   have ih:=iC (env:=env) h
   rcases Bool.eq_false_or_eq_true (k0 == NameKind.free && env.scope.kind == .function && env.kindOf n == some .cell) with hc | hc
   ·simp only [hc,if_true,List.lookup_cons,hx]
    exact ih
   ·simp only [hc,Bool.false_eq_true,if_false,List.lookup_cons,hx]
    exact ih
def cE (js:List (Option Nat)) (σ:St):St:=js.map fun j=>match j with
 | some j=>(σ[j]?).join
 | none=>none
end L2
namespace L2
open PySem PySem.Spec PyProof.Rows
def PTs (X:Cx) (ifs:List Expr) (tt:TT):Prop :=
 ∀ (pins:List (Addr × Obj)) (s:Shared) (σ:St) (H:Hp) (Q:Bool→Hp→Prop),Inv X pins σ H s→tt σ H Q →
  wpAny (model X.prog X.w) X.A (forIn ifs true fun c r=>if r=true then do let ok ← isTrue c X.env (eval c X.env); pure (ForInStep.yield ok) else pure (ForInStep.yield r)) (TP X pins σ Q) X.xe s
def CZ:TT:=fun _ H Q=>Q true H
theorem pts_nil {X:Cx}:PTs X [] CZ:=fun _ _ _ H _ I h=>wpAny_tests_nil ⟨H,I,h⟩
theorem wJ {X:Cx} {c:Expr} {tc:TT} (hc:PT X c tc):PTs X [c] tc:=fun pins s σ H Q I h=>wpAny_tests_one (hc pins s σ H Q I h)
def A0 (g:TG) (tt:TT) (te:TE) (D:Addr) (x:V) (τ:St) (H:Hp) (N:St→Hp→Prop):Prop :=
 g x τ H fun τ4 H4=>tt τ4 H4 fun b H5=>if b=true then te τ4 H5 fun v H6=>∃ xs,H6 D=some (.lst xs)∧xs.length < sizeLine∧N τ4 (upd H6 D (.lst (xs++[v]))) else N τ4 H5
def wn (J:It) (g:TG) (tt:TT) (te:TE) (σ0:St) (H1:Hp) (D:Addr) (Q:VK):Prop :=
 ∃ W:Nat→Nat→St→Hp→Prop,(∃ m,W 0 m σ0 (upd H1 D (.lst []))) ∧
  ∀ i m τ H2,W i m τ H2→(J.stop i H2∧Q (.ref D) H2)∨(J.go i H2∧∃ N:St→Hp→Prop,(∀ τ' H',N τ' H'→∃ m',m' < m∧W (i+1) m' τ' H')∧∀ x H3,J.yld i H2 x H3→A0 g tt te D x τ H3 N)
def tLC (wi:TI) (g:TG) (tt:TT) (te:TE) (js:List (Option Nat)):TE:=fun σ H Q =>
 wi σ H fun J H1=>∀ D,H1 D=none→wn J g tt te (cE js σ) H1 D Q
theorem thF {α:Type} {t:Sem α} {Q Q':α→Shared→Prop} {M:Model} {A:Around} {E:Value→Shared→Prop} {s:Shared} (h:wpAny M A t Q (fun _ _=>False) s) (hQ:∀ a s,Q a s→Q' a s):wpAny M A t Q' E s :=
 wpAny_mono h hQ fun _ _ x=>x.elim
section
variable {X:Cx} {elt tg iter:Expr} {ifs:List Expr} {scope:Scope} {pos:Pos} {ns:List Str} {js:List (Option Nat)} {wi:TI} {g:TG} {tt:TT} {te:TE}
end
end L2
namespace L2
open PySem PySem.Spec PyProof.Rows
section
variable {X:Cx}
theorem ng:∀ (bs:List Bool),(List.range bs.length).all (fun i=>bs.getD i true)=bs.all id:=fun bs=>by
 rw [Bool.eq_iff_iff,List.all_eq_true,List.all_eq_true]
 constructor
 ·intro h b hb
  obtain ⟨i,hi,e⟩:=List.mem_iff_getElem.mp hb
  have q:=h i (List.mem_range.mpr hi)
  rw [List.getD_eq_getElem?_getD,List.getElem?_eq_getElem hi,e] at q
  exact q
 ·intro h i hi
  have hi':=List.mem_range.mp hi
  rw [List.getD_eq_getElem?_getD,List.getElem?_eq_getElem hi']
  exact h _ (List.getElem_mem hi')
theorem qr (hc:X.calm=true):CallR X (.builtin "all") (fun xs H Q=>∃ (p:Addr) (bs:List Bool),xs=[.ref p]∧SqL X.K H p (bs.map V.bl)∧Q (.bl (bs.all id)) H):=by
 intro pins s σ H xs us Q I r h
 obtain ⟨p,bs,rfl,hp,q⟩:=h
 obtain ⟨u,rfl,ru⟩:=bJ r
 cases ru
 obtain ⟨its,rv,pl,hz⟩:=I.list hp
 have hl:its.length=bs.length:=by rw [← rv.length,List.length_map]
 have hlt:p < s.heap.objs.size:=by
  obtain ⟨o,n,e,_⟩:=id pl
  exact Heap.lt_size e
 refine call_all_walk (wpAny_pyIter_list pl.isList ?_)
 refine ⟨s.heap.objs.size,[s.heap.objs.size,p],[s.heap.objs.size],its.toArray.size,fun i v=>its.toArray[i]?=some v,_,fun i=>bs.getD i true,rfl,Walks.list (A:=X.A.in1) (show X.A.in1.handled=none from I.ok.hd hc) s.heap.objs.size p (Nat.ne_of_lt hlt) its.toArray,?_,?_,?_⟩
 ·exact ⟨⟨_,Heap.get?_push_size _ rfl,rfl,rfl⟩,pl.isList.push _⟩
 ·intro i v s' Q' E' hv hq
  have hv':its[i]?=some v:=by simpa using hv
  have hi:i < bs.length:=by
   rw [← hl]
   exact (List.getElem?_eq_some_iff.mp hv').1
  obtain ⟨u,hu,ru⟩:=rv.get (i:=i) (x:=V.bl bs[i]) (by rw [List.getElem?_map,List.getElem?_eq_getElem hi]; rfl)
  rw [hu] at hv'
  cases hv'
  cases ru
  have e:bs.getD i true=bs[i]:=by rw [List.getD_eq_getElem?_getD,List.getElem?_eq_getElem hi]; rfl
  have hq':Q' (bs.getD i true) s':=hq
  rw [e] at hq'
  exact wpAny_truthy_bool hq'
 ·intro h' tk hk
  have e:(List.range its.toArray.size).all (fun i=>bs.getD i true)=bs.all id:=by
   rw [← ng bs,List.size_toArray,hl]
  rw [e]
  refine ⟨.bl (bs.all id),H,I.kept (t':=tk) fun b o z=>hk b o ?_ (Heap.get?_push_of_some _ z),rfl,q⟩
  intro z'
  have z'':b=s.heap.objs.size:=by simpa using z'
  exact Nat.ne_of_lt (Heap.lt_size z) z''
theorem qp:CallR X (.builtin "isinstance") (fun xs H Q=>∃ x t n b,xs=[x,.ty n]∧TyOf X.K H x t∧PySem.W.kitOne X.K t (.type n)=some b∧Q (.bl b) H):=by
 intro pins s σ H xs us Q I r h
 obtain ⟨x,t,n,b,rfl,ty,e,q⟩:=h
 obtain ⟨u,w',rfl,r1,r2⟩:=vW r
 cases r2
 exact n9 I r1 ty e fun tk=>⟨.bl b,H,I.tok _,rfl,q⟩
end
section
open PySem.SeqAt
variable {X:Cx} {pins:List (Addr × Obj)} {σ:St} {H:Hp} {s:Shared}
end
section
variable {X:Cx}
theorem gb:∀ {xs:List V} {us:List Value},Vals xs us→Vals xs.reverse us.reverse
 | _,_,.nil=>.nil
 | _,_,.cons r t=>by
  rw [List.reverse_cons,List.reverse_cons]
  exact (gb t).append (.cons r .nil)
end
end L2
namespace L2
open PySem PySem.Spec PyProof.Rows
def Kn (P:Program) (w:World) (K:PySem.W.Frag) (mg:Str→Option Value) (base:Heap) (k:Nat) (x:Str) (ps:List Str) (sp:Sp):Prop :=
 ∃ f fd,FnOk P w K mg base CX0 k f fd ps sp∧mg x=some (.ref f)∧PySem.W.keepIn K (.ref f)=true∧Binds K fd ps []
theorem Kn.mono {P:Program} {w:World} {K:PySem.W.Frag} {mg:Str→Option Value} {base:Heap} {j k:Nat} {x:Str} {ps:List Str} {sp:Sp} (G:Kn P w K mg base j x ps sp) (h:j≤k):Kn P w K mg base k x ps sp :=
 let ⟨f,fd,a,b,c,d⟩:=G
 ⟨f,fd,a.mono h,b,c,d⟩
section
variable {X:Cx} {k:Nat} {x:Str} {ps:List Str} {sp:Sp} {p pos:Pos} {e:Expr} {es:List Expr} {t:TA}
theorem wg (G:Kn X.prog X.w X.K X.mg X.base k x ps sp) (hr:Room k X.A) (hg:Gl X x) (ha:PA X (e :: es) t) (hdb:(x == ("__debug__" : Str))=false:=by decide)
  (he:starEach (e :: es) X.env=(false,eval e X.env) :: starEach es X.env:=by rfl) (hpl:(backTo pos (starEach es X.env)).any (·.1)=false:=by rfl) :
  PE X (.Call (.Name x p) (e :: es) [] pos) (iy sp [] E0 t):=by
 obtain ⟨f,fd,F,hm,hk,hb⟩:=G
 exact wV F hr hg hm hk hb .nil wj ha hdb he hpl
theorem AO (G:Kn X.prog X.w X.K X.mg X.base k x ps sp) (hr:Room k X.A) (hg:Gl X x) (hdb:(x == ("__debug__" : Str))=false:=by decide) :
  PE X (.Call (.Name x p) [] [] pos) (iy sp [] E0 jk):=by
 obtain ⟨f,fd,F,hm,hk,hb⟩:=G
 exact pB F hr hg hm hk hb .nil wj hdb
end
def C1 (K:PySem.W.Frag):List V→Hp→VK→Prop:=fun xs H Q=>∃ x n,xs=[x]∧B7 K x H n∧Q (.int n) H
def wH (K:PySem.W.Frag):List V→Hp→VK→Prop:=fun xs H Q=>∃ p ys,xs=[.ref p]∧(SqL K H p ys∨SqT K H p ys)∧∀ l,H l=none→Q (.ref l) (upd H l (.lst ys))
def As (K:PySem.W.Frag):List V→Hp→VK→Prop:=fun xs H Q=>∃ p ys,xs=[.ref p]∧((SqL K H p ys∧∀ l,H l=none→Q (.ref l) (upd H l (.tup ys)))∨(SqT K H p ys∧Q (.ref p) H))
def C3 (K:PySem.W.Frag):List V→Hp→VK→Prop:=fun xs H Q=>∃ (p:Addr) (bs:List Bool),xs=[.ref p]∧SqL K H p (bs.map V.bl)∧Q (.bl (bs.all id)) H
section
variable {X:Cx} {K:PySem.W.Frag}
theorem C8 (hK:X.K=K):CallR X (.builtin "len") (C1 K):=by subst hK; exact qo
theorem xb (hK:X.K=K):CallR X (.type "list") (wH K):=by subst hK; exact ld
theorem A5 (hK:X.K=K):CallR X (.type "tuple") (As K):=by subst hK; exact jY
theorem Da (hK:X.K=K) (hc:X.calm=true):CallR X (.builtin "all") (C3 K):=by subst hK; exact qr hc
theorem C9 (hK:X.K=K):IxR X (mx K):=by subst hK; exact ix_list
theorem C7 (hK:X.K=K):SlR X (Au K):=by subst hK; exact wF
theorem C6 (hK:X.K=K):SlR X (At K):=by subst hK; exact Aq
theorem Cp (hK:X.K=K):OpR X (binaryOp .Add) (we K):=by subst hK; exact wX
variable {tg l:Expr} {tl:TE} {es:List Expr} {t:TGs} {n k:Nat} {pos p p2 cpos apos:Pos}
end
end L2
namespace L2
open PySem PySem.Spec PyProof.Rows
def sgn (c:Nat):V:=.str ⟨#[c]⟩
def Its (z:Str):It:=⟨fun i _=>i < z.cps.size,fun i H x H'=>H'=H∧∃ c,z.cps[i]?=some c∧x=sgn c,fun i _=>z.cps.size≤i⟩
theorem pc {P:Program} {w:World} {K:PySem.W.Frag} {tg:Expr} (it:Addr) (z:Str) (t:Tok) (ty:String) (hty:ty="str_ascii_iterator"∨ty="str_iterator") :
  Turn P w K tg (Its z) [it] it (fun i h=>h.IsStrIter it ty z t i) where
 mem:=by simp
 obj:=fun i h st b hb=>by
  have e:b=it:=by simpa using hb
  subst e
  obtain ⟨o,e,c,d⟩:=st
  exact ⟨o,e,fun v q=>by rw [d] at q; cases q⟩
 keep:=fun i h h' st k=>let ⟨o,e,r⟩:=st; ⟨o,k it (by simp) o e,r⟩
 item:=by
  intro X hP hw hK hc i pins s σ H E I hf st hg
  subst hP hw hK
  obtain ⟨f0,f1,f2,f3,f4,f5⟩:=hf it (by simp)
  have W:Walks X.prog X.w X.A it [it] [it] z.cps.size (SignAt z) (fun i h=>h.IsStrIter it ty z t i):=by
   rcases hty with rfl | rfl
   ·exact Walks.strAscii (I.ok.hd hc) it z t
   ·exact Walks.strWide (I.ok.hd hc) it z t
  refine W.item i s _ _ hg st fun v h' tk hv st' kk=>?_
  obtain ⟨c,u,hcv,rfl⟩:=hv
  have I1:Inv X pins σ H { s with heap:=h',toks:=tk }:=I.turned (fun b o hb e=>kk b o (by simpa using hb) e) f0 f1 f3 f4 f5
  obtain ⟨o,e,ec,ed⟩:=id st'
  refine ⟨_,rfl,j7 (s:={ s with heap:=h',toks:=tk }) (n:=ty) e ec ed (by rcases hty with rfl | rfl <;> decide) ⟨sgn c,H,I1,⟨u,rfl⟩,⟨rfl,c,hcv,rfl⟩,st',fun b hb=>(hf b hb).1⟩⟩
 done:=by
  intro X hP hw hK hc i pins s σ H E I hf st hg
  subst hP hw hK
  obtain ⟨f0,f1,f2,f3,f4,f5⟩:=hf it (by simp)
  have hle:z.cps.size≤i:=hg
  rcases hty with rfl | rfl
  ·exact wpAny_pyNext_ascii_end (I.ok.hd hc) st (by simpa using hle) fun h' he=>⟨rfl,I.turned (t':=s.toks) (fun b o hb e=>he b o hb e) f0 f1 f3 f4 f5⟩
  ·exact wpAny_pyNext_wide_end (I.ok.hd hc) st (by simpa using hle) fun h' he=>⟨rfl,I.turned (t':=s.toks) (fun b o hb e=>he b o hb e) f0 f1 f3 f4 f5⟩
 self:=fun A i s Q E st h=>by
  rcases hty with rfl | rfl
  ·exact wpAny_pyIter_striter_ascii st h
  ·exact wpAny_pyIter_striter_wide st h
section
variable {X:Cx} {tg:Expr} {K:PySem.W.Frag}
def a7 (z:Str):List V:=z.cps.toList.map sgn
theorem eI:∀ {xs:List V} {us:List Value},xs.length=us.length→(∀ (i:Nat) x u,xs[i]?=some x→us[i]?=some u→RelV x u)→Vals xs us
 | [],[],_,_=>.nil
 | [],_ :: _,h,_=>by cases h
 | _ :: _,[],h,_=>by cases h
 | x :: xs,u :: us,h,f=>.cons (f 0 x u rfl rfl) (eI (Nat.succ.inj h) fun i y v a b=>f (i+1) y v (by simpa using a) (by simpa using b))
theorem jt (hc:X.calm=true):CallR X (.type "list") (fun xs H Q=>∃ z,xs=[.str z]∧z.cps.size≤sizeLine∧∀ l,H l=none→Q (.ref l) (upd H l (.lst (a7 z)))):=by
 intro pins s σ H xs us Q I r h
 obtain ⟨z,rfl,hz,q⟩:=h
 obtain ⟨u,rfl,t,rfl⟩:=bJ r
 refine call_list_str (I.ok.hd hc) z t (fun h' tk acc c' hk ho hi=>?_) hz
 have hl:(a7 z).length=acc.toList.length:=by
  unfold a7
  rw [List.length_map,Array.length_toList,Array.length_toList,hi.1]
 have rv:Vals (a7 z) acc.toList:=eI hl fun i x v a b=>by
  obtain ⟨c,tk',hcv,rfl⟩:=hi.2 i v (by simpa using b)
  unfold a7 at a
  rw [List.getElem?_map] at a
  have e:z.cps.toList[i]?=some c:=by simpa using hcv
  rw [e] at a
  cases a
  exact ⟨_,rfl⟩
 refine ⟨.ref s.heap.objs.size,_,I.laid (t':=tk) (o:=.lst (a7 z)) hk (Nat.le_refl _) ⟨?_,acc.toList,c',rv,by simpa using ho⟩,rfl,q _ I.fresh⟩
 unfold a7
 rw [List.length_map,Array.length_toList]
 exact hz
theorem iz {ys:List Str}:∀ {us:List Value},Vals (ys.map V.str) us→StrsAre us ys:=by
 induction ys with
 | nil=>intro us r; cases r; exact .nil
 | cons y ys ih =>
  intro us r
  cases r with
  | cons r1 r2 =>
   obtain ⟨t,e⟩:=r1
   subst e
   exact .cons y t (ih r2)
def wd (K:PySem.W.Frag):V→List V→Hp→VK→Prop:=fun x xs H Q=>∃ sep ys p,x=.str sep∧xs=[.ref p]∧(SqL K H p (ys.map V.str)∨SqT K H p (ys.map V.str))∧sep.length≤16∧(ys.map (·.length)).sum+ys.length≤1048576∧Q (.str (Txt.join sep ys)) H
theorem fc (hK:X.K=K):MtR X "str.join" (wd K):=by
 subst hK
 intro pins s σ H x xs v us Q I rx rs h
 obtain ⟨sep,ys,p,rfl,rfl,hp,hs,hw,q⟩:=h
 obtain ⟨t,rfl⟩:=rx
 obtain ⟨u,rfl,ru⟩:=bJ rs
 cases ru
 rcases hp with hp | hp
 ·obtain ⟨its,rv,pl,_⟩:=I.list hp
  exact join_listW pl.isList (by simpa using iz rv) hs hw fun t' k=>⟨.str _,H,I.tok k,⟨_,rfl⟩,q⟩
 ·obtain ⟨its,rv,pl,_⟩:=I.tuple hp
  exact join_tupleW pl (by simpa using iz rv) hs hw fun t' k=>⟨.str _,H,I.tok k,⟨_,rfl⟩,q⟩
def cw (xs:List Nat) (lo hi:Option Int):List Nat:=(xs.drop (HT.sIx xs.length 0 lo)).take (HT.sIx xs.length xs.length hi - HT.sIx xs.length 0 lo)
theorem kr (n d:Nat) (v:Option Int) (h:d≤n):HT.sIx n d v≤n:=by
 cases v with
 | none=>exact h
 | some i =>
  unfold HT.sIx
  dsimp only
  split <;> omega
theorem pd (lo hi:Option Int) (n:Nat):Builtin.Str.strSliceIndices lo hi 1 n=(List.range (HT.sIx n n hi - HT.sIx n 0 lo)).map (HT.sIx n 0 lo+·):=by
 obtain ⟨h1,h2,h3⟩:=gf lo hi n
 have e:Builtin.Str.strSliceIndices lo hi 1 n=sliceRange (sliceBounds lo hi none n).1 (sliceBounds lo hi none n).2.1 (sliceBounds lo hi none n).2.2:=by
  cases lo <;> cases hi <;> rfl
 rw [e,h1,h2,h3,sliceRange_one]
theorem ms (x:Str) (lo hi:Option Int):Txt.slice x lo hi=⟨(cw x.cps.toList lo hi).toArray⟩:=by
 unfold Txt.slice
 have hl:x.length=x.cps.toList.length:=by simp [Str.length]
 rw [pd]
 have e:(((List.range (HT.sIx x.length x.length hi - HT.sIx x.length 0 lo)).map (HT.sIx x.length 0 lo+·)).filterMap (x.cps[·]?))=cw x.cps.toList lo hi:=by
  rw [pick_run,hl]
  rfl
 rw [e]
 split
 ·rename_i hc
  have hc':HT.sIx x.length x.length hi - HT.sIx x.length 0 lo=x.length:=by simpa using hc
  have h1:=kr x.length x.length hi (Nat.le_refl _)
  have ha:HT.sIx x.length 0 lo=0∨x.length=0:=by omega
  have:cw x.cps.toList lo hi=x.cps.toList:=by
   unfold cw
   rw [← hl,hc']
   rcases ha with z | z
   ·rw [z,List.drop_zero,hl,List.take_length]
   ·rw [z,List.take_zero]
    rw [hl] at z
    exact (List.eq_nil_of_length_eq_zero z).symm
  rw [this]
 ·rfl
def C0:V→Option Int→Option Int→Hp→VK→Prop:=fun x lo hi H Q=>∃ z,x=.str z∧z.length≤sizeLine∧Q (.str ⟨(cw z.cps.toList lo hi).toArray⟩) H
theorem sl_str:SlR X C0:=by
 intro pins s σ H x v vl vu lo hi sl Q I rx hs pl pu h
 obtain ⟨z,rfl,hz,q⟩:=h
 obtain ⟨t,rfl⟩:=rx
 rw [← ms] at q
 have go:∀ (l u:Option (Int × Tok)),s.heap.IsSlice sl l u none→l.map (·.1)=lo→u.map (·.1)=hi→wpAny (model X.prog X.w) X.A (getItem (.str z t) (.ref sl)) (EP X pins σ Q) X.xe s:=fun l u hsl e1 e2=>by
  subst e1 e2
  exact wpAny_getItem_str_slice (st:=none) hsl rfl (post_val_or_str ⟨Nat.le_trans (Txt.slice_le z _ _) hz,fun t' k=>⟨.str _,H,I.tok k,⟨_,rfl⟩,q⟩⟩)
 refine ⟨"str",_,F.slot_str_getitem.lookup,typeIs_str _ _ _,?_⟩
 cases pl with
 | none =>
  cases pu with
  | none=>exact go none none hs rfl rfl
  | int j u=>exact go none (some (j,u)) hs rfl rfl
 | int i t =>
  cases pu with
  | none=>exact go (some (i,t)) none hs rfl rfl
  | int j u=>exact go (some (i,t)) (some (j,u)) hs rfl rfl
def Ay (K:PySem.W.Frag):R2:=fun x y H Q=>∃ a b ys,x=.ref a∧y=.ref b∧SqT K H a []∧SqT K H b ys∧Q (.ref b) H
theorem pC (hK:X.K=K):OpR X (binaryOp .Add) (Ay K):=by
 subst hK
 intro pins s σ H x y v u Q I rx ry h
 obtain ⟨a,b,ys,rfl,rfl,ha,hb,q⟩:=h
 cases rx
 cases ry
 obtain ⟨its,r1,p1,_⟩:=I.tuple ha
 obtain ⟨its2,r2,p2,_⟩:=I.tuple hb
 cases r1
 obtain ⟨⟨cls,dd,data,sl⟩,ho,hc,n,hd⟩:=id p1
 obtain ⟨⟨cls2,dd2,data2,sl2⟩,ho2,hc2,n2,hd2⟩:=id p2
 simp only at hc hd hc2 hd2
 subst hc hd hc2 hd2
 exact concat_meets ⟨_,ho,rfl⟩ ⟨_,ho2,rfl⟩ noFill_tuple_add seq_tuple_add PySem.F.slot_tuple_add PySem.F.entry_tuple_add (PySem.F.args_tuple_add_2 _ _)
  (tuple_addW0 a b _ _ n n2 dd dd2 sl sl2 (by simp)) ⟨ho,ho2,⟨.ref b,H,I,rfl,q⟩⟩
end
end L2
namespace L2
open PySem PySem.Spec PyProof.Rows
section
variable {l l':List Addr} {H H':Hp} {a b:Addr} {o:HO}
end
section
variable {K:PySem.W.Frag}
end
end L2
namespace L2
open PySem PySem.Spec PyProof.Rows
section
variable {X:Cx} {tg:Expr} {K:PySem.W.Frag}
def B9 (te tk:TE):TE:=fun σ H Q=>te σ H fun x H1=>tk σ H1 fun y H2=>∃ z,x=.str z∧y=.int (-1)∧z.length≤sizeLine∧Q (.str ⟨z.cps.toList.reverse.toArray⟩) H2
theorem wS {e k:Expr} {te tk:TE} {p2 pos:Pos} (he:PE X e te) (hk:PE X k tk):PE X (.Subscript e (.Slice none none (some k) p2) pos) (B9 te tk):=by
 intro pins s σ H Q I h
 refine Subscript_ (thn (he pins s σ H _ I h) fun v s1 ⟨x,H1,I1,r1,q1⟩=>?_)
 refine wpAny_Slice ?_
 rw [evalPart_none]
 refine wpAny_pure (wpAny_pure ?_)
 rw [evalPart_some]
 refine thn (hk pins s1 σ H1 _ I1 q1) fun vk s3 ⟨y,H3,I3,r3,q3⟩=>?_
 obtain ⟨z,rfl,rfl,hz,q⟩:=q3
 obtain ⟨t,rfl⟩:=r3
 obtain ⟨t1,rfl⟩:=r1
 have I4:Inv X pins σ H3 { s3 with heap:=s3.heap.push { cls:=.type "slice",data:=.fields #[.none,.none,.int (-1) t] } }:=I3.kept (t':=s3.toks) fun b ob q=>Heap.get?_push_of_some _ q
 show wpAny (model X.prog X.w) X.A (subscriptTail e (.Slice none none (some k) p2) (.str z t1) (.ref s3.heap.objs.size)) (EP X pins σ Q) X.xe { s3 with heap:=s3.heap.push { cls:=.type "slice",data:=.fields #[.none,.none,.int (-1) t] } }
 refine tail_any (ops:=[.str z t1,.ref s3.heap.objs.size]) (typeIs_str _ _ _) F.slot_str_getitem.lookup ?_ (by with_unfolding_all rfl)
 refine wpAny_getItem_str_slice (l:=none) (u:=none) (st:=some (-1,t)) ⟨_,Heap.get?_push_size _ rfl,rfl,rfl⟩ rfl ?_
 have e:sliceMade z t1 none none (some (-1,t))=.str ⟨z.cps.toList.reverse.toArray⟩:=by
  unfold sliceMade
  rw [if_neg (by
   intro q
   have q':((-1:Int) == 1 && (slicePicked z none none (some (-1,t))).length == z.length)=true:=q
   rw [show ((-1:Int) == 1)=false by decide,Bool.false_and] at q'
   cases q')]
  show Made.str ⟨((sliceRange ((z.cps.size:Int) - 1) (-1) (-1)).filterMap (z.cps[·]?)).toArray⟩=_
  rw [PySem.W.krv_sliceRange,PySem.W.krv_range,List.filterMap_reverse,PySem.W.krv_all]
 rw [e]
 refine ⟨?_,⟨.str _,H3,I4.tok _,⟨_,rfl⟩,q⟩⟩
 show z.cps.toList.reverse.toArray.size≤sizeLine
 rw [List.size_toArray,List.length_reverse,Array.length_toList]
 exact hz
end
theorem kU {α β:Type} {f g:α→Option β}:∀ {l:List α},(∀ a∈l,f a=g a)→l.filterMap f=l.filterMap g
 | [],_=>rfl
 | a :: l,h=>by
  rw [List.filterMap_cons,List.filterMap_cons,h a List.mem_cons_self,kU fun b hb=>h b (List.mem_cons_of_mem _ hb)]
section
variable {prog:Program} {w:World} {A:Around} {E:Value→Shared→Prop} {s:Shared}
theorem lF {sl:Addr} {n:Nat} {t:Tok} {Q:Int × Int × Nat→Shared→Prop} (hs:s.heap.IsSliceOf sl .none .none (.int (-1) t))
  (h:Q ((n:Int) - 1,-1,n) s):wpAny (model prog w) A (Builtin.Slice.sliceApplied (.ref sl) (pure (n:Int))) Q E s:=by
 obtain ⟨os,hos,hcs,hds⟩:=id hs
 unfold Builtin.Slice.sliceApplied Builtin.Slice.sliceFields
 refine wpAny_bind (wpAny_bind (wpAny_field hos hds (x:=.none) rfl (wpAny_bind (wpAny_field hos hds (x:=.none) rfl (wpAny_bind (wpAny_field hos hds (x:=.int (-1) t) rfl (wpAny_pure ?_)))))))
 refine wpAny_bind (HT.slicePart_ (.int (-1) t) ?_)
 show wpAny _ _ (if ((-1:Int) == 0)=true then _ else _) _ _ s
 rw [if_neg (by decide)]
 refine wpAny_bind (HT.slicePart_ .none (wpAny_bind (HT.slicePart_ .none (wpAny_bind (wpAny_pure ?_)))))
 show wpAny _ _ (match Builtin.Slice.sliceAdjust none none (-1) (n:Int) with | (lo,hi)=>pure (lo,(-1:Int),Builtin.Slice.slicePlaces lo hi (-1))) _ _ s
 have e:Builtin.Slice.sliceAdjust none none (-1) (n:Int)=((n:Int) - 1,-1):=by
  first
   | rfl
   | simp [Builtin.Slice.sliceAdjust]
 rw [e]
 show wpAny _ _ (pure ((n:Int) - 1,(-1:Int),Builtin.Slice.slicePlaces ((n:Int) - 1) (-1) (-1))) _ _ s
 have e2:Builtin.Slice.slicePlaces ((n:Int) - 1) (-1) (-1)=n:=by
  unfold Builtin.Slice.slicePlaces
  have h1:¬ ((-1:Int) > 0):=by omega
  simp only [h1,if_false]
  split
  ·simp
   try omega
  ·omega
 rw [e2]
 exact wpAny_pure h
theorem gS {t sl:Addr} {u:Tok} {items:Array Value} {Q:Value→Shared→Prop} (ht:IsTup s.heap t items) (hs:s.heap.IsSliceOf sl .none .none (.int (-1) u))
  (h:Q (.ref s.heap.objs.size) { s with heap:=s.heap.push { cls:=.type "tuple",data:=.seq items.toList.reverse.toArray } })
  (hsz:items.size≤sizeLine):wpAny (model prog w) A (getItem (.ref t) (.ref sl)) Q E s:=by
 have htake:sizeOk (.seq items.toList.reverse.toArray):=by
  show items.toList.reverse.toArray.size≤sizeLine
  rw [List.size_toArray,List.length_reverse,Array.length_toList]
  exact hsz
 obtain ⟨os,hos,hcs,hds⟩:=id hs
 have hTs:s.TypeIs (.ref sl) "slice":=⟨os,hos,hcs⟩
 unfold getItem
 try with_reducible refine wpAny_holding ?_
 first | refine wpAny_bind (wpAny_pure ?_) | skip
 refine wpAny_bind (wpAny_sequenceKey ht.typeIs (by decide) ?_)
 refine wpAny_bind (wpAny_callSpecial?_slot (name:=Str.ofString "__getitem__") ht.typeIs PyProof.Rows.slot_tuple_getitem
  (wpAny_call_entry PyProof.Rows.slot_tuple_getitem ht.typeIs entry_tuple_getitem ?_ (args_tuple_getitem _ _)))
 show wpAny _ _ (Builtin.Tuple.tupleItemsOf (.ref t) >>= _) _ _ s
 refine wpAny_bind (tupleItemsOf_ ht ?_)
 refine wpAny_bind (wpAny_typeOf hTs ?_)
 rw [if_pos (by decide)]
 refine wpAny_bind (lF hs ?_)
 have hno:¬ (((items.size:Int) - 1 == 0 && (-1:Int) == 1 && items.size == items.size)=true):=by
  intro q
  rw [show ((-1:Int) == 1)=false by decide,Bool.and_false,Bool.false_and] at q
  cases q
 show wpAny _ _ (if ((items.size:Int) - 1 == 0 && (-1:Int) == 1 && items.size == items.size)=true then _ else _) _ _ s
 have pick:((List.range items.size).filterMap fun (m:Nat)=>items[((items.size:Int) - 1+(m:Int) * -1).toNat]?).toArray=items.toList.reverse.toArray:=by
  have e:((List.range items.size).filterMap fun (m:Nat)=>items[((items.size:Int) - 1+(m:Int) * -1).toNat]?)=((List.range items.size).map fun k=>items.size - 1 - k).filterMap (items[·]?):=by
   rw [List.filterMap_map]
   refine kU fun m hm=>?_
   have:=List.mem_range.mp hm
   have e:((items.size:Int) - 1+(m:Int) * -1).toNat=items.size - 1 - m:=by omega
   rw [e]
   rfl
  rw [e,PySem.W.krv_range,List.filterMap_reverse,PySem.W.krv_all]
 rw [if_neg hno,pick]
 first
  | exact wpAny_bind (m:=Builtin.Tuple.tupleExact _) (wpAny_newObj_type (wpAny_pure ⟨_,rfl,wpAny_pure h⟩) htake)
  | exact wpAny_bind (m:=Builtin.Tuple.tupleExact _) (wpAny_newObj_type (wpAny_bind (wpAny_pure (wpAny_pure ⟨_,rfl,wpAny_pure h⟩))) htake)
  | exact wpAny_bind (wpAny_bind (m:=Builtin.Tuple.tupleExact _) (wpAny_newObj_type (wpAny_pure (wpAny_pure ⟨_,rfl,wpAny_pure h⟩)) htake))
  | exact wpAny_bind (wpAny_bind (m:=Builtin.Tuple.tupleExact _) (wpAny_newObj_type (wpAny_pure ⟨_,rfl,wpAny_pure h⟩) htake))
end
section
variable {X:Cx} {tg:Expr} {K:PySem.W.Frag}
def B8 (K:PySem.W.Frag) (te tk:TE):TE:=fun σ H Q=>te σ H fun x H1=>tk σ H1 fun y H2=>∃ a xs,x=.ref a∧y=.int (-1)∧SqT K H2 a xs∧∀ p,H2 p=none→Q (.ref p) (upd H2 p (.tup xs.reverse))
theorem pJ {e k:Expr} {te tk:TE} {p2 pos:Pos} (hK:X.K=K) (he:PE X e te) (hk:PE X k tk):PE X (.Subscript e (.Slice none none (some k) p2) pos) (B8 K te tk):=by
 subst hK
 intro pins s σ H Q I h
 refine Subscript_ (thn (he pins s σ H _ I h) fun v s1 ⟨x,H1,I1,r1,q1⟩=>?_)
 refine wpAny_Slice ?_
 rw [evalPart_none]
 refine wpAny_pure (wpAny_pure ?_)
 rw [evalPart_some]
 refine thn (hk pins s1 σ H1 _ I1 q1) fun vk s3 ⟨y,H3,I3,r3,q3⟩=>?_
 obtain ⟨a,xs,rfl,rfl,hx,q⟩:=q3
 obtain ⟨t,rfl⟩:=r3
 cases r1
 have I4:Inv X pins σ H3 { s3 with heap:=s3.heap.push { cls:=.type "slice",data:=.fields #[.none,.none,.int (-1) t] } }:=I3.kept (t':=s3.toks) fun b ob q=>Heap.get?_push_of_some _ q
 obtain ⟨its,r,ht,hz⟩:=I4.tuple hx
 show wpAny (model X.prog X.w) X.A (subscriptTail e (.Slice none none (some k) p2) (.ref a) (.ref s3.heap.objs.size)) (EP X pins σ Q) X.xe { s3 with heap:=s3.heap.push { cls:=.type "slice",data:=.fields #[.none,.none,.int (-1) t] } }
 refine tail_any (ops:=[.ref a,.ref s3.heap.objs.size]) ht.typeIs PyProof.Rows.slot_tuple_getitem.lookup ?_ (by with_unfolding_all rfl)
 have hlen:=r.length
 refine gS ht (Heap.IsSliceOf.new ..) ?_ (by rw [List.size_toArray] <;> omega)
 refine ⟨.ref _,_,I4.laid (t':=s3.toks) (o:=.tup xs.reverse) (fun b ob q=>Heap.get?_push_of_some _ q) (Nat.le_refl _) ?_,rfl,q _ (I4.hok.fresh (Nat.le_refl _))⟩
 exact ⟨by rw [List.length_reverse]; exact hz,its.reverse,gb r,IsTupN.new _ _⟩
end
end L2
namespace L2
open PySem PySem.Spec PyProof.Rows
abbrev li (z:Str):List Nat:=z.cps.toList
def mk1 (c:Nat):Str:=⟨#[c]⟩
def ofL (l:List Nat):Str:=⟨l.toArray⟩
theorem kG (l:List Nat):li (ofL l)=l:=rfl
theorem nN (z:Str):ofL (li z)=z:=rfl
theorem AZ {a b:Str} (h:li a=li b):a=b:=by rw [← nN a,← nN b,h]
theorem len_li (z:Str):z.length=(li z).length:=rfl
theorem jm {a b:Nat} (h:mk1 a=mk1 b):a=b:=by
 have:li (mk1 a)=li (mk1 b):=by rw [h]
 simpa [li,mk1] using this
theorem nS (a b:Str):li (a++b)=li a++li b:=by
 show (a.cps++b.cps).toList=_
 rw [Array.toList_append]
def emp:Str:=""
def cat (ks:List Str):Str:=Txt.join emp ks
def aM (ks:List Str):List Nat:=(ks.map li).flatten
theorem BY (ks:List Str):li (cat ks)=aM ks:=by
 unfold cat Txt.join aM
 rw [StrLaws.glued_eq_join]
 induction ks with
 | nil=>rfl
 | cons x r ih =>
  cases r with
  | nil =>
   show li x=_
   simp
  | cons y r =>
   show li (x++emp++Str.join emp (y :: r))=_
   rw [nS,nS,ih]
   show li x++[]++_=li x++((y :: r).map li).flatten
   rw [List.append_nil]
theorem lg (cs:List Nat):aM (cs.map mk1)=cs:=by
 unfold aM
 rw [List.map_map]
 induction cs with
 | nil=>rfl
 | cons c r ih =>
  rw [List.map_cons,List.flatten_cons,ih]
  rfl
theorem jP (ks:List Str) (x:Str):aM (ks++[x])=aM ks++li x:=by
 unfold aM
 rw [List.map_append,List.flatten_append]
 simp
theorem lh (ks:List Str):(ks.map (·.length)).sum=(aM ks).length:=by
 unfold aM
 rw [List.length_flatten,List.map_map]
 rfl
def Sub (x z:List Nat):Prop:=∀ c∈x,c∈z
theorem eD {α β:Type} (f:α→β):∀ (ys:List α) (k:Nat),(ys.map f).eraseIdx k=(ys.eraseIdx k).map f
 | [],_=>rfl
 | _ :: _,0=>rfl
 | y :: ys,k+1=>by
  show f y :: (ys.map f).eraseIdx k=f y :: (ys.eraseIdx k).map f
  rw [eD f ys k]
theorem Ar {n:Nat} {i:Int} (h0:0≤i) (h1:i < (n:Int)):seqIndex? i n=some i.toNat:=PySem.seqIndex_of h0 h1
theorem iZ:∀ (us:List Nat) (d:Nat) (h:d < us.length),([us[d]]++us.eraseIdx d).Perm us
 | [],_,h=>absurd h (Nat.not_lt_zero _)
 | a :: r,0,_=>List.Perm.refl _
 | a :: r,d+1,h=>by
  have h':d < r.length:=Nat.lt_of_succ_lt_succ h
  show (r[d] :: a :: r.eraseIdx d).Perm (a :: r)
  exact (List.Perm.swap _ _ _).trans (List.Perm.cons a (iZ r d h'))
end L2
namespace L2
open PySem PySem.Spec PyProof.Rows
section
variable {prog:Program} {w:World} {A:Around} {E:Value→Shared→Prop} {s:Shared}
end
section
variable {prog:Program} {w:World} {A:Around} {E:Value→Shared→Prop} {s:Shared}
end
section
variable {X:Cx} {K:PySem.W.Frag}
def cS (z y:Str):Bool:=!(Builtin.Str.occurrences z y 0 z.length 1).isEmpty
def C2 (neg:Bool):R2:=fun x y H Q=>∃ a b,x=.str a∧y=.str b∧Q (.bl (if neg then !cS b a else cS b a)) H
theorem op_notInS:OpR X (compareOp .NotIn) (C2 true):=by
 intro pins s σ H x y v u Q I rx ry h
 obtain ⟨a,b,rfl,rfl,q⟩:=h
 obtain ⟨t,rfl⟩:=rx
 obtain ⟨t2,rfl⟩:=ry
 exact PySem.P.notIn_str ⟨.bl _,H,I,rfl,q⟩
end
section
open PySem.SeqAt
end
end L2
namespace L2
open PySem PySem.Spec PyProof.Rows
theorem cD:∀ (names:List (Str × NameKind)) (n:Nat) (acc:List (Str × Addr)),cellsFrom n names acc=cellsFrom n names []++acc
 | [],_,_=>rfl
 | (x,k) :: r,n,acc=>by
  unfold cellsFrom
  split
  ·rw [cD r (n+1) ((x,n) :: acc),cD r (n+1) [(x,n)],List.append_assoc]
   rfl
  ·exact cD r n acc
theorem dz:∀ (names:List (Str × NameKind)) (n:Nat) (acc:List (Str × Addr)) {x:Str} {c:Addr},(x,c)∈cellsFrom n names acc→(x,c)∈acc∨(x,NameKind.cell)∈names
 | [],_,_,_,_,h=>.inl h
 | (y,k) :: r,n,acc,x,c,h=>by
  unfold cellsFrom at h
  split at h
  ·rename_i hk
   rcases dz r _ _ h with h | h
   ·rcases List.mem_cons.mp h with e | e
    ·have hk':k=.cell:=by simpa using hk
     have e':=(Prod.mk.inj e).1
     rw [e',← hk']
     exact .inr List.mem_cons_self
    ·exact .inl e
   ·exact .inr (List.mem_cons_of_mem _ h)
  ·rcases dz r _ _ h with h | h
   ·exact .inl h
   ·exact .inr (List.mem_cons_of_mem _ h)
theorem df:∀ (names:List (Str × NameKind)) (n:Nat) (acc:List (Str × Addr)) {p:Str × Addr},p∈acc→p∈cellsFrom n names acc
 | [],_,_,_,h=>h
 | (y,k) :: r,n,acc,p,h=>by
  unfold cellsFrom
  split
  ·exact df r _ _ (List.mem_cons_of_mem _ h)
  ·exact df r _ _ h
theorem dA:∀ (names:List (Str × NameKind)) (n:Nat) (acc:List (Str × Addr)) {x:Str},(x,NameKind.cell)∈names→∃ c,(x,c)∈cellsFrom n names acc
 | [],_,_,_,h=>by simp at h
 | (y,k) :: r,n,acc,x,h=>by
  unfold cellsFrom
  rcases List.mem_cons.mp h with e | e
  ·cases e
   rw [if_pos (by rfl)]
   exact ⟨n,df r _ _ List.mem_cons_self⟩
  ·split
   ·exact dA r _ _ e
   ·exact dA r _ _ e
theorem kE {α:Type}:∀ {a b:List (Str × α)} {x:Str} {c:α},(a++b).lookup x=some c→a.lookup x=some c∨(a.lookup x=none∧b.lookup x=some c)
 | [],_,_,_,h=>.inr ⟨rfl,h⟩
 | (n,v) :: r,b,x,c,h=>by
  rw [List.cons_append,List.lookup_cons] at h
  rw [List.lookup_cons]
  cases e:x == n with
  | true=>rw [e] at h; exact .inl h
  | false=>rw [e] at h; exact kE h
theorem gi {α:Type}:∀ {a b:List (Str × α)} {x:Str} {c:α},a.lookup x=some c→(a++b).lookup x=some c
 | [],_,_,_,h=>by simp at h
 | (n,v) :: r,b,x,c,h=>by
  rw [List.cons_append,List.lookup_cons]
  rw [List.lookup_cons] at h
  cases e:x == n with
  | true=>rw [e] at h; exact h
  | false=>rw [e] at h; exact gi h
theorem fK {α:Type}:∀ {a b:List (Str × α)} {x:Str} {c:α},a.lookup x=none→b.lookup x=some c→(a++b).lookup x=some c
 | [],_,_,_,_,h=>h
 | (n,v) :: r,b,x,c,hn,h=>by
  rw [List.cons_append,List.lookup_cons]
  rw [List.lookup_cons] at hn
  cases e:x == n with
  | true=>rw [e] at hn; cases hn
  | false=>rw [e] at hn; exact fK hn h
abbrev aF (X:Cx) (scope:Scope) (ns:List Str) (C:Addr) (cl:List (Str × Addr)) (s₀:Shared) (H₀:Hp) (fp:List Addr):Cx :=
 { X with N:=ns,s₀:=s₀,H₀:=H₀,env:=compEnvC scope cl C X.env,outer:=X.stack,ex:=fp,fn:=fun x=>scope.names.lookup x == some NameKind.cell,pn:=[],xe:=fun _ _=>False }
structure BlkOkC (X:Cx) (scope:Scope) (ns:List Str) (js:List (Option Nat)):Prop where
 kind:scope.kind=.function
 uniq:∀ y∈scope.names,y.2=.cell→scope.names.lookup y.1=some .cell
 names:∀ y∈scope.names,y.2=.local→scope.names.lookup y.1=some .local
 free:∀ y∈scope.names,y.2=.free→X.env.kindOf y.1=some .cell∨X.env.kindOf y.1=some .free
 nd:ns.Nodup
 len:js.length=ns.length
 out:∀ (i:Nat) (x:Str) (j:Nat),ns[i]?=some x→js[i]?=some (some j)→X.N[j]?=some x∧scope.names.lookup x=some .free
def mi (N:List Str) (sc scope:Scope) (ns:List Str) (js:List (Option Nat)):Bool :=
 decide (scope.kind=.function) && scope.names.all (fun y=>decide (y.2=.cell→scope.names.lookup y.1=some .cell)) && scope.names.all (fun y=>decide (y.2=.local→scope.names.lookup y.1=some .local)) &&
 scope.names.all (fun y=>decide (y.2=.free→sc.names.lookup y.1=some .cell∨sc.names.lookup y.1=some .free)) && decide ns.Nodup && decide (js.length=ns.length) &&
 (List.range ns.length).all (fun i=>match js[i]?,ns[i]? with
  | some (some j),some x=>decide (N[j]?=some x) && decide (scope.names.lookup x=some .free)
  | _,_=>true)
theorem xW {N:List Str} {scope:Scope} {ns:List Str} {js:List (Option Nat)} (h7:∀ i < ns.length,(match js[i]?,ns[i]? with
  | some (some j),some x=>decide (N[j]?=some x) && decide (scope.names.lookup x=some .free)
  | _,_=>true)=true) {i:Nat} {x:Str} {j:Nat} (e1:ns[i]?=some x) (e2:js[i]?=some (some j)):N[j]?=some x∧scope.names.lookup x=some .free:=by
 have q:=h7 i (List.getElem?_eq_some_iff.mp e1).1
 rw [e1,e2] at q
 simpa using q
theorem BlkOkC.of {X:Cx} {scope:Scope} {ns:List Str} {js:List (Option Nat)} {N0:List Str} {sc0:Scope} (hN:X.N=N0) (hS:X.env.scope=sc0) (h:mi N0 sc0 scope ns js=true):BlkOkC X scope ns js:=by
 unfold mi at h
 simp only [Bool.and_eq_true,List.all_eq_true,decide_eq_true_eq,List.mem_range] at h
 obtain ⟨⟨⟨⟨⟨⟨h1,h2⟩,h3⟩,h4⟩,h5⟩,h6⟩,h7⟩:=h
 refine ⟨h1,fun y hy=>h2 y hy,fun y hy=>h3 y hy,fun y hy hk=>?_,h5,h6,fun i x j e1 e2=>?_⟩
 ·have q:=h4 y hy hk
  rw [← hS] at q
  exact q
 ·rw [hN]
  exact xW h7 e1 e2
section
variable {M:Model} {A:Around} {E:Value→Shared→Prop} {s:Shared}
theorem em {scope:Scope} {globals:Addr} {closure:List (Str × Addr)} {qual:Str} {outer:Env} {builtins:Addr} {Q:Env→Shared→Prop}
  (hQ:Q (newEnv scope s.heap.objs.size globals (cellsFrom (s.heap.objs.size+1) scope.names closure) qual none .none (some outer) builtins) { s with heap:=pushCells (s.heap.push { cls:=.type "dict",data:=.dict #[] }) scope.names }) :
  wpAny M A (newFunctionEnv scope globals closure [] qual none .none (some outer) builtins) Q E s:=by
 simp only [newFunctionEnv,Option.isSome_some,if_true]
 refine wpAny_bind (wpAny_alloc ?_)
 refine wpAny_bind (wpAny_layCells _ (fun name kind cells=>by cases hkc:kind == NameKind.cell <;> simp [hkc]) _ _ _ _ ?_)
 rw [show ({ s with heap:=s.heap.push { cls:=.type "dict",data:=.dict #[] } }:Shared).heap.objs.size=s.heap.objs.size+1 from Heap.size_push ..]
 rw [List.forIn_nil]
 exact wpAny_bind (wpAny_pure (wpAny_pure hQ))
end
section
variable {X:Cx} {elt tg iter:Expr} {ifs:List Expr} {scope:Scope} {pos:Pos} {ns:List Str} {js:List (Option Nat)} {wi:TI} {g:TG} {tt:TT} {te:TE}
theorem qt {pins:List (Addr × Obj)} {s3:Shared} {σ:St} {H3:Hp} {fp:List Addr} {h₁:Heap} {tk:Nat} (B:BlkOkC X scope ns js) (I3:Inv X pins σ H3 s3)
  (f3:∀ b∈fp,eX X pins H3 b) (lt3:∀ b∈fp,b < s3.heap.objs.size) (hns:h₁.Ns s3.heap.objs.size (fun _=>none)) (old:∀ b u,s3.heap.get? b=some u→h₁.get? b=some u)
  (cok:CellsOk h₁ (s3.heap.objs.size+1) (cellsFrom (s3.heap.objs.size+1) scope.names [])) :
  Inv (aF X scope ns s3.heap.objs.size (cellsFrom (s3.heap.objs.size+1) scope.names (cc X.env scope.names)) s3 H3 fp) [] (cE js σ) H3 { s3 with heap:=h₁,toks:=tk }:=by
 rw [cD]
 have hmem:∀ {x:Str} {c:Addr},(x,c)∈cellsFrom (s3.heap.objs.size+1) scope.names []→scope.names.lookup x=some .cell:=fun {x c} h=>by
  rcases dz _ _ _ h with h | h
  ·simp at h
  ·exact B.uniq _ h rfl
 have hhas:∀ {x:Str},scope.names.lookup x=some .cell→∃ c,(cellsFrom (s3.heap.objs.size+1) scope.names []).lookup x=some c:=fun {x} h=>by
  obtain ⟨c,hc⟩:=dA scope.names (s3.heap.objs.size+1) [] (PySem.mem_of_lookup h)
  exact dy hc
 generalize cellsFrom (s3.heap.objs.size+1) scope.names []=CS at cok hmem hhas
 have has:∀ y∈scope.names,y.2=.free→∃ c,X.env.cells.lookup y.1=some c:=fun y hy hk=>I3.ok.has y.1 (B.free y hy hk)
 have look:∀ {n:Str} {c:Addr},(CS++cc X.env scope.names).lookup n=some c→(CS.lookup n=some c∧h₁.IsCell c none∧s3.heap.objs.size+1≤c)∨(CS.lookup n=none∧X.env.cells.lookup n=some c∧c < s3.heap.objs.size):=fun {n c} e=>by
  rcases kE e with e | ⟨e1,e2⟩
  ·exact .inl ⟨e,cok.empty n c (PySem.mem_of_lookup e)⟩
  ·have e3:=jJ has e2
   obtain ⟨v,hv⟩:=I3.cell n c e3
   exact .inr ⟨e1,e3,hv.lt⟩
 refine ⟨⟨I3.ok.mod,B.kind,I3.ok.glob,I3.ok.blt,Nat.le_refl _,fun y z c h1 h2=>?_,fun y hy=>?_,fun y c hf h=>?_,I3.ok.hd,I3.ok.frames,.inl rfl,fun b hb=>?_,I3.bs,Nat.le_trans I3.ok.bsz I3.sz,
   fun b o e hb=>?_,fun b hb z=>?_,I3.stack,I3.stkFree⟩,
  rfl,I3.bare,Un.kept old,⟨_,hns,fun i x v h1 h2 h3=>?_⟩,fun y c h=>?_,I3.fresh,fun y c h=>?_,fun p hp=>absurd (show p∈([]:List (Addr × Obj)) from hp) (by simp),I3.hok.kept old,?_⟩
 ·rcases look h1 with ⟨a1,_,a3⟩ | ⟨_,a2,a3⟩ <;> rcases look h2 with ⟨b1,_,b3⟩ | ⟨_,b2,b3⟩
  ·exact name_of_addr cok.apart (PySem.mem_of_lookup a1) (PySem.mem_of_lookup b1)
  ·exact absurd (Nat.lt_of_lt_of_le (Nat.lt_of_lt_of_le b3 (Nat.le_succ _)) a3) (Nat.lt_irrefl _)
  ·exact absurd (Nat.lt_of_lt_of_le (Nat.lt_of_lt_of_le a3 (Nat.le_succ _)) b3) (Nat.lt_irrefl _)
  ·exact I3.ok.inj y z c a2 b2
 ·have hf:scope.names.lookup y=some .cell∨scope.names.lookup y=some .free:=by
   rcases hy with hy | hy
   ·rcases fF (env:=X.env) hy with q | q
    ·exact .inl q
    ·exact .inr q.1
   ·rcases fF (env:=X.env) hy with q | q
    ·exact .inr q
    ·exact .inr q.1
  show ∃ c,(CS++cc X.env scope.names).lookup y=some c
  rcases hf with hf | hf
  ·obtain ⟨c,hc⟩:=hhas hf
   exact ⟨c,gi hc⟩
  ·obtain ⟨c,hc⟩:=k9 (env:=X.env) (PySem.mem_of_lookup hf)
   cases e:CS.lookup y with
   | none=>exact ⟨c,fK e hc⟩
   | some d=>exact ⟨d,gi e⟩
 ·rcases look h with ⟨_,_,a3⟩ | ⟨a1,_,_⟩
  ·show s3.heap.objs.size≤c
   omega
  ·have hf':(scope.names.lookup y == some NameKind.cell)=true:=hf
   obtain ⟨d,hd⟩:=hhas (by simpa using hf')
   rw [a1] at hd
   cases hd
 ·refine ⟨Nat.ne_of_lt (lt3 b hb),fun x c e=>?_⟩
  rcases look e with ⟨_,_,a3⟩ | ⟨_,a2,_⟩
  ·have:=lt3 b hb
   intro z
   subst z
   exact Nat.lt_irrefl _ (Nat.lt_of_lt_of_le (Nat.lt_of_lt_of_le this (Nat.le_succ _)) a3)
  ·exact (f3 b hb).2.2.2.2.1 x c a2
 ·rcases (f3 b hb).2.2.2.1 with z | z
  ·exact I3.ok.noex b o e z
  ·exact absurd (Nat.lt_of_lt_of_le (Nat.lt_of_lt_of_le (Heap.lt_size e) I3.ok.bsz) z) (Nat.lt_irrefl _)
 ·rcases List.mem_cons.mp (I3.stkSub b z) with q | q
  ·exact (f3 b hb).2.1 q
  ·exact (f3 b hb).2.2.1 q
 ·have h2':(js.map fun j=>match j with | some j=>(σ[j]?).join | none=>none)[i]?=some (some v):=h2
  rw [List.getElem?_map] at h2'
  obtain ⟨j,hj,hσ⟩:∃ j,js[i]?=some (some j)∧σ[j]?=some (some v):=by
   cases e:js[i]? with
   | none=>rw [e] at h2'; simp at h2'
   | some oj =>
    rw [e] at h2'
    cases oj with
    | none=>simp at h2'
    | some j =>
     refine ⟨j,rfl,?_⟩
     have q:(σ[j]?).join=some v:=by simpa using h2'
     cases e2:σ[j]? with
     | none=>rw [e2] at q; simp at q
     | some ov =>
      rw [e2] at q
      simp at q
      rw [q]
  obtain ⟨hN,hfr⟩:=B.out i x j h1 hj
  have hf:=B.free (x,.free) (PySem.mem_of_lookup hfr) rfl
  have hf':X.env.kindOf x=some .cell∨X.env.kindOf x=some .free:=hf
  obtain ⟨m,hn,hl⟩:=I3.loc
  obtain ⟨u,r,l⟩:=hl j x v hN hσ (by
   rcases hf' with z | z
   ·exact .inr (.inl z)
   ·exact .inr (.inr z))
  refine ⟨u,r,?_⟩
  rcases l with ⟨hk,_⟩ | ⟨hk,c,hc,hcell⟩
  ·rcases hf' with z | z
   ·rw [z] at hk; cases hk
   ·rw [z] at hk; cases hk
  ·obtain ⟨c',hc'⟩:=k9 (env:=X.env) (PySem.mem_of_lookup hfr)
   have e':=jJ has hc'
   rw [hc] at e'
   cases e'
   obtain ⟨o,ho,hd⟩:=hcell
   have hno:CS.lookup x=none:=by
    cases e:CS.lookup x with
    | none=>rfl
    | some d =>
     have q:=hmem (PySem.mem_of_lookup e)
     rw [hfr] at q
     cases q
   exact .inr ⟨iC (env:=X.env) hfr,c,fK hno hc',⟨o,old c o ho,hd⟩⟩
 ·rcases look h with ⟨_,a2,_⟩ | ⟨_,a2,_⟩
  ·exact ⟨_,a2⟩
  ·obtain ⟨v,o,ho,hd⟩:=I3.cell y c a2
   exact ⟨v,o,old c o ho,hd⟩
 ·rcases look h with ⟨_,_,a3⟩ | ⟨_,a2,_⟩
  ·exact I3.hok.fresh (by omega)
  ·exact I3.freeC y c a2
 ·show (js.map _).length=ns.length
  rw [List.length_map]
  exact B.len
theorem kH {pins:List (Addr × Obj)} {s2:Shared} {σ:St} {H2:Hp} {Qv:VK} {J:It} {fp:List Addr} {it:Addr} {tn:Nat→Heap→Prop} {RR:Value→Addr→Result→Shared→Prop}
  (B:BlkOkC X scope ns js) (hc:X.calm=true) (I2:Inv X pins σ H2 s2) (T:Turn X.prog X.w X.K tg J fp it tn) (st2:tn 0 s2.heap) (f2:∀ b∈fp,eX X pins H2 b)
  (hg:∀ C cl s₀ H₀ fp,PG (aF X scope ns C cl s₀ H₀ fp) tg g) (ht:∀ C cl s₀ H₀ fp,PTs (aF X scope ns C cl s₀ H₀ fp) ifs tt) (he:∀ C cl s₀ H₀ fp,PE (aF X scope ns C cl s₀ H₀ fp) elt te)
  (hw:∀ D,H2 D=none→wn J g tt te (cE js σ) H2 D Qv)
  (hRR:∀ D C s' H',Inv X pins σ H' s'→Qv (.ref D) H'→(∃ m,s'.heap.Ns C m)→H' C=none→C≠X.env.locals→X.s₀.heap.objs.size≤C→(∀ x c,X.env.cells.lookup x=some c→c≠C)→(∀ p∈X.pn++pins,p.1≠C)→RR (.ref D) C (.ok .next) s') :
  wpAny (model X.prog X.w) X.A (newList []) (fun acc s₃=>wpAny (model X.prog X.w) X.A (newFunctionEnv scope X.env.globals (cc X.env scope.names) [] X.env.qual none .none (some X.env)) (fun cenv s₄ =>
   codeAny (model X.prog X.w) X.A (.compStart (.ListComp elt [⟨tg,iter,ifs,0⟩] scope pos) 0 (.ref it) acc { cenv with scope:=relabel scope X.env }) (RR acc cenv.locals) s₄) X.xe s₃) X.xe s2:=by
 refine wpAny_newObj_type (em ?_)
 dsimp only
 have I3:Inv X pins σ (upd H2 s2.heap.objs.size (.lst [])) { s2 with heap:=s2.heap.push { cls:=.type "list",data:=.seq ([]:List Value).toArray },toks:=s2.toks }:=I2.lnew .nil (Nat.zero_le _)
 generalize hs3:({ s2 with heap:=s2.heap.push { cls:=.type "list",data:=.seq ([]:List Value).toArray },toks:=s2.toks }:Shared)=s3 at I3
 have e3:s3.heap=s2.heap.push { cls:=.type "list",data:=.seq ([]:List Value).toArray }:=by rw [← hs3]
 have k3:∀ b u,s2.heap.get? b=some u→s3.heap.get? b=some u:=fun b u e=>by rw [e3]; exact Heap.get?_push_of_some _ e
 have sz3:s3.heap.objs.size=s2.heap.objs.size+1:=by rw [e3,Heap.size_push]
 have hD:H2 s2.heap.objs.size=none:=I2.fresh
 obtain ⟨h₁,hh₁⟩:∃ h₁,h₁=pushCells (s3.heap.push { cls:=.type "dict",data:=.dict #[] }) scope.names:=⟨_,rfl⟩
 have old:∀ b u,s3.heap.get? b=some u→h₁.get? b=some u:=fun b u e=>by
  rw [hh₁]
  exact pushCells_keeps _ _ b u (Heap.get?_push_of_some _ e)
 have hns:h₁.Ns s3.heap.objs.size (fun _=>none):=by
  rw [hh₁]
  exact (Heap.Ns.new s3.heap (.type "dict")).keeps (pushCells_keeps _ _)
 have cok:CellsOk h₁ (s3.heap.objs.size+1) (cellsFrom (s3.heap.objs.size+1) scope.names []):=by
  have q:=cellsFrom_ok scope.names (s3.heap.push { cls:=.type "dict",data:=.dict #[] }) (s3.heap.objs.size+1) [] ⟨fun _ _ hm=>(nomatch hm),List.Pairwise.nil⟩ (by rw [Heap.size_push]; exact Nat.le_refl _)
  rw [Heap.size_push,← hh₁] at q
  exact q
 have obj2:∀ b∈fp,b < s2.heap.objs.size:=fun b hb=>let ⟨o,e,_⟩:=T.obj 0 _ st2 b hb; Heap.lt_size e
 have f3:∀ b∈fp,eX X pins (upd H2 s2.heap.objs.size (.lst [])) b:=fun b hb=>⟨by rw [aP (Nat.ne_of_lt (obj2 b hb))]; exact (f2 b hb).1,(f2 b hb).2⟩
 have lt3:∀ b∈fp,b < s3.heap.objs.size:=fun b hb=>by rw [sz3]; exact Nat.lt_succ_of_lt (obj2 b hb)
 obtain ⟨W,⟨m0,w0⟩,turn⟩:=hw _ hD
 have J0:=fun tk=>qt (tk:=tk) B I3 f3 lt3 hns old cok
 have has:∀ y∈scope.names,y.2=.free→∃ c,X.env.cells.lookup y.1=some c:=fun y hy hk=>I2.ok.has y.1 (B.free y hy hk)
 have stat:∀ {H':Hp},(∀ b∈fp,H' b=none)→∀ b∈fp,eX (aF X scope ns s3.heap.objs.size (cellsFrom (s3.heap.objs.size+1) scope.names (cc X.env scope.names)) s3 (upd H2 s2.heap.objs.size (.lst [])) fp) [] H' b:=fun hn b hb =>
  ⟨hn b hb,Nat.ne_of_lt (lt3 b hb),(J0 0).ok.exfs b hb,.inl hb,fun x c e=>(J0 0).ok.exf b hb |>.2 x c e,fun p hp=>absurd (show p∈([]:List (Addr × Obj)) from hp) (by simp)⟩
 have fin:∀ {τ:St} {H':Hp} {s':Shared},Inv (aF X scope ns s3.heap.objs.size (cellsFrom (s3.heap.objs.size+1) scope.names (cc X.env scope.names)) s3 (upd H2 s2.heap.objs.size (.lst [])) fp) [] τ H' s'→Qv (.ref s2.heap.objs.size) H'→RR (.ref s2.heap.objs.size) s3.heap.objs.size (.ok .next) s':=fun {τ H' s'} I6 q=>by
  have u1:Un (frs X.stack) fp H2 (upd H2 s2.heap.objs.size (.lst [])) s2.heap s3.heap:=Un.laid k3 (Nat.le_refl _) hD
  have os3:s3.os=s2.os:=by rw [← hs3]
  have I7:Inv X pins σ H' s':=I2.call' (ch:=fp) (I6.os.trans os3) (u1.trans I6.base) I6.hok I6.bare fun b hb=>⟨(f2 b hb).2.2.2.1,(f2 b hb).2.1,(f2 b hb).2.2.2.2.1,(f2 b hb).2.2.2.2.2⟩
  have le2:s2.heap.objs.size≤s3.heap.objs.size:=by rw [sz3]; exact Nat.le_succ _
  refine hRR _ _ s' H' I7 q ?_ I6.free (Nat.ne_of_gt (Nat.lt_of_lt_of_le I2.lt le2)) (Nat.le_trans I2.sz le2) (fun x c e z=>?_) fun p hp z=>?_
  ·obtain ⟨m,hn,_⟩:=I6.loc
   exact ⟨m,hn⟩
  ·obtain ⟨v,hv⟩:=I2.cell x c e
   exact absurd (Nat.lt_of_lt_of_le hv.lt (by rw [z]; exact le2)) (Nat.lt_irrefl _)
  ·exact absurd (Nat.lt_of_lt_of_le (Heap.lt_size (I2.pin p hp).1) (by rw [z]; exact le2)) (Nat.lt_irrefl _)
 rw [← e3,← hh₁]
 have loop:∀ tk,codeAny (model X.prog X.w) X.A (.compLoop (.ListComp elt [⟨tg,iter,ifs,0⟩] scope pos) 0 (.ref it) (.ref s2.heap.objs.size) (compEnvC scope (cellsFrom (s3.heap.objs.size+1) scope.names (cc X.env scope.names)) s3.heap.objs.size X.env))
   (RR (.ref s2.heap.objs.size) s3.heap.objs.size) { s3 with heap:=h₁,toks:=tk }:=fun tk=>by
  refine codeAny_loop rfl (fun n s'=>∃ i τ H',Inv (aF X scope ns s3.heap.objs.size (cellsFrom (s3.heap.objs.size+1) scope.names (cc X.env scope.names)) s3 (upd H2 s2.heap.objs.size (.lst [])) fp) [] τ H' s'∧tn i s'.heap∧(∀ b∈fp,H' b=none)∧W i n τ H') (fun n s5 hI=>?_) m0
   ⟨0,_,_,J0 tk,T.keep _ _ _ st2 fun b _ o e=>old b o (k3 b o e),fun b hb=>(f3 b hb).1,w0⟩
  obtain ⟨i,τ,H5,I5,st5,fr5,w5⟩:=hI
  show wpAny _ X.A ((compTurn (.ListComp elt [⟨tg,iter,ifs,0⟩] scope pos) 0 (.ref it) (.ref s2.heap.objs.size) (compEnvC scope (cellsFrom (s3.heap.objs.size+1) scope.names (cc X.env scope.names)) s3.heap.objs.size X.env)).onRaise (fun x=>do noteFrame x (compEnvC scope (cellsFrom (s3.heap.objs.size+1) scope.names (cc X.env scope.names)) s3.heap.objs.size X.env); theTreesLotGoes x)) _ _ s5
  refine wpAny_noted ?_
  rw [compTurn_list]
  refine wpAny_bind (wpAny_standAt (wpAny_bind ?_))
  rcases turn i n τ H5 w5 with ⟨stop,qn⟩ | ⟨go,N,hN,step⟩
  ·refine thn (T.done (aF X scope ns s3.heap.objs.size (cellsFrom (s3.heap.objs.size+1) scope.names (cc X.env scope.names)) s3 (upd H2 s2.heap.objs.size (.lst [])) fp) rfl rfl rfl hc i [] s5 τ H5 _ I5 (stat fr5) st5 stop) fun r s6 ⟨hr,I6⟩=>?_
   subst hr
   exact wpAny_pure (fin I6 qn)
  ·refine thn (T.item (aF X scope ns s3.heap.objs.size (cellsFrom (s3.heap.objs.size+1) scope.names (cc X.env scope.names)) s3 (upd H2 s2.heap.objs.size (.lst [])) fp) rfl rfl rfl hc i [] s5 τ H5 _ I5 (stat fr5) st5 go) fun r s6 ⟨u,hr,h6⟩=>?_
   subst hr
   dsimp only
   refine wpAny_bind (thn h6 fun _ s7 ⟨x,H7,I7,r7,y7,st7,fr7⟩=>?_)
   have I7':=I7.pinned (stat fr7) (T.obj _ _ st7)
   have back:∀ {τ9:St} {H9:Hp} {s9:Shared},Inv (aF X scope ns s3.heap.objs.size (cellsFrom (s3.heap.objs.size+1) scope.names (cc X.env scope.names)) s3 (upd H2 s2.heap.objs.size (.lst [])) fp) ([]++gg fp s7.heap) τ9 H9 s9 →
     Inv (aF X scope ns s3.heap.objs.size (cellsFrom (s3.heap.objs.size+1) scope.names (cc X.env scope.names)) s3 (upd H2 s2.heap.objs.size (.lst [])) fp) [] τ9 H9 s9∧tn (i+1) s9.heap∧∀ b∈fp,H9 b=none:=fun {τ9 H9 s9} I9=>by
    refine ⟨I9.unpinned,T.keep _ _ _ st7 fun b hb o e=>(I9.pin (b,o) (List.mem_append_right _ (List.mem_append_right _ (dD hb e)))).1,fun b hb=>?_⟩
    obtain ⟨o,e,d⟩:=T.obj _ _ st7 b hb
    exact (I9.pin (b,o) (List.mem_append_right _ (List.mem_append_right _ (dD hb e)))).2.1
   refine wpAny_bind (thF (hg _ _ _ _ _ _ s7 τ H7 x u _ I7' r7 (step x H7 y7)) fun _ s8 ⟨τ8,H8,I8,q8⟩=>?_)
   refine wpAny_bind (thF (ht _ _ _ _ _ _ s8 τ8 H8 _ I8 q8) fun b s9 ⟨H9,I9,q9⟩=>?_)
   cases b with
   | false =>
    rw [if_neg Bool.false_ne_true] at q9
    obtain ⟨m',hm,w9⟩:=hN _ _ q9
    obtain ⟨a1,a2,a3⟩:=back I9
    exact wpAny_pure ⟨rfl,m',hm,i+1,τ8,H9,a1,a2,a3,w9⟩
   | true =>
    rw [if_pos rfl] at q9
    refine wpAny_bind (wpAny_bind (thF (he _ _ _ _ _ _ s9 τ8 H9 _ I9 q9) fun v s10 ⟨y,H10,I10,r10,q10⟩=>?_))
    obtain ⟨xs,hx,hz,n10⟩:=q10
    obtain ⟨m',hm,w10⟩:=hN _ _ n10
    refine wpAny_bind (thF (jC _ s10 τ8 H10 (.ref s2.heap.objs.size) [y] (.ref s2.heap.objs.size) [v] (fun _ H11=>W (i+1) m' τ8 H11) I10 rfl (.cons r10 .nil) ⟨_,xs,y,rfl,rfl,hx,hz,w10⟩) fun _ s11 ⟨_,H11,I11,_,q11⟩=>?_)
    obtain ⟨a1,a2,a3⟩:=back I11
    exact wpAny_pure (wpAny_pure ⟨rfl,m',hm,i+1,τ8,H11,a1,a2,a3,q11⟩)
 have hst1:tn 0 h₁:=T.keep _ _ _ st2 fun b _ o e=>old b o (k3 b o e)
 subst hs3
 exact codeAny_compStart_list (loop _) (T.self _ 0 _ _ _ hst1 (loop _))
theorem nJ (B:BlkOkC X scope ns js) (hc:X.calm=true) (hi:PI X tg iter wi)
  (hg:∀ C cl s₀ H₀ fp,PG (aF X scope ns C cl s₀ H₀ fp) tg g) (ht:∀ C cl s₀ H₀ fp,PTs (aF X scope ns C cl s₀ H₀ fp) ifs tt) (he:∀ C cl s₀ H₀ fp,PE (aF X scope ns C cl s₀ H₀ fp) elt te)
  (hs:∀ x,foldedSetIterable iter X.env x=pure x:=by intro _; rfl):PE X (.ListComp elt [⟨tg,iter,ifs,0⟩] scope pos) (tLC wi g tt te js):=by
 intro pins s σ H Q I h
 rw [eval_ListComp]
 have hclos:=i7 (scope:=scope) (env:=X.env) (fun y hy hk=>I.ok.has y.1 (B.free y hy hk))
 refine wpAny_comprehension_free (use:=none) rfl hs hclos B.kind B.names (thn (hi pins s σ H _ I h) fun v s1 h1=>thn h1 fun itv s2 h2=>?_)
 obtain ⟨it,fp,tn,J,H2,e,I2,T,st2,f2,hw⟩:=h2
 subst e
 refine kH (RR:=fun acc C=>compPost (model X.prog X.w) X.A X.xe none (EP X pins σ Q) acc C) B hc I2 T st2 f2 hg ht he hw ?_
 intro D C s' H' I' q hm c0 c1 c2 c3 c4
 obtain ⟨m,hn⟩:=hm
 exact ⟨m,hn,fun h' hs'=>⟨.ref D,H',I'.turned (t':=s'.toks) (fun b o hb e=>(hs'.2 b hb).trans e) c0 c1 (.inr c2) c3 c4,rfl,q⟩⟩
theorem nG {i:Nat} {x:Str} {spos pos':Pos} (hN:X.N.Nodup) (hi':X.N[i]?=some x) (hx:X.env.scope.names.lookup x=some .local) (B:BlkOkC X scope ns js) (hc:X.calm=true) (hi:PI X tg iter wi)
  (hg:∀ C cl s₀ H₀ fp,PG (aF X scope ns C cl s₀ H₀ fp) tg g) (ht:∀ C cl s₀ H₀ fp,PTs (aF X scope ns C cl s₀ H₀ fp) ifs tt) (he:∀ C cl s₀ H₀ fp,PE (aF X scope ns C cl s₀ H₀ fp) elt te)
  (hsw:swapsWith (.ListComp elt [⟨tg,iter,ifs,0⟩] scope pos) (some (.Name x pos')) spos.line X.env=pure true:=by rfl)
  (hs:∀ x,foldedSetIterable iter X.env x=pure x:=by intro _; rfl):PS X (.Assign [.Name x pos'] (.ListComp elt [⟨tg,iter,ifs,0⟩] scope pos) spos) (ki (tLC wi g tt te js) (iS i)):=by
 intro pins s σ H D I h
 rw [exec_Assign_Name_used _ _ _ _ hsw]
 have hclos:=i7 (scope:=scope) (env:=X.env) (fun y hy hk=>I.ok.has y.1 (B.free y hy hk))
 refine wpAny_bind (wpAny_standAt (wpAny_bind ?_))
 show wpAny _ X.A (do let _ ← comprehension (.ListComp elt [⟨tg,iter,ifs,0⟩] scope pos) scope X.env _ (newList []) false (eval iter X.env) (some (assign (.Name x pos') X.env))) _ _ s
 refine wpAny_bind (wpAny_mono (wpAny_comprehension_free (use:=some (assign (.Name x pos') X.env)) (Q:=fun _ s'=>SP X pins D .next s') rfl hs hclos B.kind B.names
  (thn (hi pins s σ H _ I h) fun v s1 h1=>thn h1 fun itv s2 h2=>?_)) (fun _ s' hq=>wpAny_pure (wpAny_pure hq)) fun _ _ e=>e)
 obtain ⟨it,fp,tn,J,H2,e,I2,T,st2,f2,hw⟩:=h2
 subst e
 refine kH (RR:=fun acc C=>compPost (model X.prog X.w) X.A X.xe (some (assign (.Name x pos') X.env)) (fun _ s'=>SP X pins D .next s') acc C) B hc I2 T st2 f2 hg ht he hw ?_
 intro D' C s' H' I' q hm c0 c1 c2 c3 c4
 obtain ⟨m,hn⟩:=hm
 show wpAny _ X.A (assign (.Name x pos') X.env (.ref D')) _ _ _
 refine wpAny_assign_Name (jz (v:=.ref D') I' hN hi' (.inl hx) rfl (fun s4 I4 ⟨a,hsb,ha⟩=>?_) (.inr hx))
 have ne:C≠a:=by
  rcases ha with z | z
  ·rw [z]; exact c1
  ·exact (c3 x a z).symm
 exact ⟨m,hn.sameBut hsb ne,fun h' hs'=>⟨_,H',I4.turned (t':=s4.toks) (fun b o hb e=>(hs'.2 b hb).trans e) c0 c1 (.inr c2) c3 c4,q⟩⟩
end
end L2
namespace L2
open PySem PySem.Spec PyProof.Rows
section
variable {X:Cx} {K:PySem.W.Frag}
def Cd:R2:=fun x y H Q=>∃ z n,x=.str z∧y=.int n∧z.length≤4000∧-(2 ^ 63)≤n∧n≤4000∧Q (.str (Txt.mul z n)) H
theorem op_mulS:OpR X (binaryOp .Mult) Cd:=by
 intro pins s σ H x y v u Q I rx ry h
 obtain ⟨z,n,rfl,rfl,hz,h0,h1,q⟩:=h
 obtain ⟨t,rfl⟩:=rx
 obtain ⟨t2,rfl⟩:=ry
 exact SB.mul (mulOk_of 4000 4000 hz h1 h0 (by decide) (by decide)) fun t' k=>⟨.str _,H,I.tok _,⟨_,rfl⟩,q⟩
end
end L2
namespace L2
open PySem PySem.Spec PyProof.Rows
mutual
def DV (H:Hp):V→PyData→Prop
 | v,.none=>v=.non
 | v,.bool b=>v=.bl b
 | v,.int i=>v=.int i
 | v,.str x=>v=.str x
 | v,.list ds=>∃ a xs,v=.ref a∧H a=some (.lst xs)∧DVs H xs ds
 | v,.tuple ds=>∃ a xs,v=.ref a∧H a=some (.tup xs)∧DVs H xs ds
 | _,.dict _=>False
def DVs (H:Hp):List V→List PyData→Prop
 | vs,[]=>vs=[]
 | vs,d :: ds=>∃ v r,vs=v :: r∧DV H v d∧DVs H r ds
end
mutual
theorem DV.same {H H':Hp} (s:B4 H H'):∀ {v:V} (d:PyData),DV H v d→DV H' v d
 | _,.none,h=>by simpa [DV] using h
 | _,.bool _,h=>by simpa [DV] using h
 | _,.int _,h=>by simpa [DV] using h
 | _,.str _,h=>by simpa [DV] using h
 | _,.list ds,h=>by
  unfold DV at h ⊢
  obtain ⟨a,xs,e,h1,h2⟩:=h
  exact ⟨a,xs,e,s _ _ h1,DVs.same s ds h2⟩
 | _,.tuple ds,h=>by
  unfold DV at h ⊢
  obtain ⟨a,xs,e,h1,h2⟩:=h
  exact ⟨a,xs,e,s _ _ h1,DVs.same s ds h2⟩
 | _,.dict _,h=>by
  unfold DV at h
  exact h.elim
theorem DVs.same {H H':Hp} (s:B4 H H'):∀ {vs:List V} (ds:List PyData),DVs H vs ds→DVs H' vs ds
 | _,[],h=>by
  unfold DVs at h ⊢
  exact h
 | _,d :: ds,h=>by
  unfold DVs at h ⊢
  obtain ⟨v,r,e,h1,h2⟩:=h
  exact ⟨v,r,e,DV.same s d h1,DVs.same s ds h2⟩
end
section
variable {X:Cx} {pins:List (Addr × Obj)} {σ:St} {H:Hp} {s:Shared}
mutual
theorem DV.reads (I:Inv X pins σ H s):∀ {v:V} {u:Value} (d:PyData),DV H v d→RelV v u→∃ as,Reads s.heap u d as
 | _,_,.none,h,r=>by
  unfold DV at h
  subst h
  cases r
  exact ⟨_,.none⟩
 | _,_,.bool b,h,r=>by
  unfold DV at h
  subst h
  cases r
  exact ⟨_,.bool _⟩
 | _,_,.int i,h,r=>by
  unfold DV at h
  subst h
  obtain ⟨t,rfl⟩:=r
  exact ⟨_,.int _ _⟩
 | _,_,.str x,h,r=>by
  unfold DV at h
  subst h
  obtain ⟨t,rfl⟩:=r
  exact ⟨_,.str _ _⟩
 | _,_,.list ds,h,r=>by
  unfold DV at h
  obtain ⟨a,xs,rfl,h1,h2⟩:=h
  cases r
  obtain ⟨its,rv,⟨o,n,e1,e2,_,e3⟩,_⟩:=I.list (SqL.of h1)
  obtain ⟨as,ra⟩:=DVs.reads I ds h2 rv
  exact ⟨_,.list e1 e2 e3 (by simpa using ra)⟩
 | _,_,.tuple ds,h,r=>by
  unfold DV at h
  obtain ⟨a,xs,rfl,h1,h2⟩:=h
  cases r
  obtain ⟨its,rv,⟨o,e1,e2,n,e3⟩,_⟩:=I.tuple (SqT.of h1)
  obtain ⟨as,ra⟩:=DVs.reads I ds h2 rv
  exact ⟨_,.tuple e1 e2 e3 (by simpa using ra)⟩
 | _,_,.dict _,h,_=>by
  unfold DV at h
  exact h.elim
theorem DVs.reads (I:Inv X pins σ H s):∀ {vs:List V} {us:List Value} (ds:List PyData),DVs H vs ds→Vals vs us→∃ as,ReadsAll s.heap us ds as
 | _,_,[],h,r=>by
  unfold DVs at h
  subst h
  cases r
  exact ⟨_,.nil⟩
 | _,_,d :: ds,h,r=>by
  unfold DVs at h
  obtain ⟨v,t,rfl,h1,h2⟩:=h
  cases r with
  | cons ru rr =>
   obtain ⟨as,a1⟩:=DV.reads I d h1 ru
   obtain ⟨bs,a2⟩:=DVs.reads I ds h2 rr
   exact ⟨_,.cons a1 a2⟩
end
end
mutual
theorem jI {H:Hp}:∀ {v:V} (d:PyData),DV H v d→d.hasDict=false
 | _,.none,_=>by simp only [PyData.hasDict]
 | _,.bool _,_=>by simp only [PyData.hasDict]
 | _,.int _,_=>by simp only [PyData.hasDict]
 | _,.str _,_=>by simp only [PyData.hasDict]
 | _,.list ds,h=>by
  unfold DV at h
  obtain ⟨a,xs,e,h1,h2⟩:=h
  simp only [PyData.hasDict]
  exact fP ds h2
 | _,.tuple ds,h=>by
  unfold DV at h
  obtain ⟨a,xs,e,h1,h2⟩:=h
  simp only [PyData.hasDict]
  exact fP ds h2
 | _,.dict _,h=>by
  unfold DV at h
  exact h.elim
theorem fP {H:Hp}:∀ {vs:List V} (ds:List PyData),DVs H vs ds→PyData.hasDictAll ds=false
 | _,[],_=>by simp only [PyData.hasDictAll]
 | _,d :: ds,h=>by
  unfold DVs at h
  obtain ⟨v,r,e,h1,h2⟩:=h
  simp only [PyData.hasDictAll,jI d h1,fP ds h2,Bool.or_self]
end
section
variable {X:Cx}
def Cc:List V→Hp→VK→Prop:=fun xs H Q=>∃ x d,xs=[x]∧DV H x d∧d.showable=true∧d.depth≤60∧d.shown.length≤sizeLine∧Q (.str d.shown) H
theorem oQ (hg:X.A.guards=some []) (hu:X.A.units+64 < cLine):CallR X (.builtin "repr") Cc:=by
 intro pins s σ H xs us Q I r h
 obtain ⟨x,d,rfl,hd,hsh,hdp,hsz,q⟩:=h
 obtain ⟨u,rfl,ru⟩:=bJ r
 have nd:=jI d hd
 obtain ⟨as,rd⟩:=DV.reads I d hd ru
 cases d with
 | none =>
  unfold DV at hd
  subst hd
  cases ru
  have e:(PyData.none).shown=("None" : Str):=PyData.shown_none
  rw [e] at q
  exact P.repr_of_none ⟨.str _,H,I.tok _,⟨_,rfl⟩,q⟩
 | bool b =>
  unfold DV at hd
  subst hd
  cases ru
  have e:(PyData.bool b).shown=(if b then "True" else "False" : Str):=PyData.shown_bool b
  rw [e] at q
  exact P.repr_of_bool ⟨.str (if b then "True" else "False"),H,I.tok _,⟨_,rfl⟩,q⟩
 | int i =>
  unfold DV at hd
  subst hd
  obtain ⟨t,rfl⟩:=ru
  have e:(PyData.int i).shown=((toString i:String):Str):=PyData.shown_int i
  rw [e] at q
  have hl:i.natAbs.log2 < 1920:=by simpa [PyData.showable] using hsh
  exact P.repr_of_int hl ⟨.str _,H,I.tok _,⟨_,rfl⟩,q⟩
 | str y =>
  unfold DV at hd
  subst hd
  obtain ⟨t,rfl⟩:=ru
  have e:(PyData.str y).shown=reprText y:=PyData.shown_str y
  rw [e] at q hsz
  exact P.repr_of_str ⟨.str _,H,I.tok _,⟨_,rfl⟩,q⟩ hsz
 | list ds =>
  have hd':=hd
  unfold DV at hd'
  obtain ⟨a,ys,rfl,_,_⟩:=hd'
  cases ru
  exact repr_of_reads' rd hsh (PyData.noDict_hsm nd) hg (by omega) (fun _ _ e=>e) (fun h' u tk hk=>⟨.str _,H,I.kept (t':=tk) hk,⟨_,rfl⟩,q⟩) hsz
 | tuple ds =>
  have hd':=hd
  unfold DV at hd'
  obtain ⟨a,ys,rfl,_,_⟩:=hd'
  cases ru
  exact repr_of_reads' rd hsh (PyData.noDict_hsm nd) hg (by omega) (fun _ _ e=>e) (fun h' u tk hk=>⟨.str _,H,I.kept (t':=tk) hk,⟨_,rfl⟩,q⟩) hsz
 | dict _ =>
  unfold DV at hd
  exact hd.elim
end
end L2
namespace L2
open PySem PySem.Spec PyProof.Rows
section
variable {prog:Program} {w:World} {A:Around} {E:Value→Shared→Prop} {s:Shared}
end
end L2
namespace L2
open PySem PySem.Spec PyProof.Rows
section
variable {prog:Program} {w:World} {A:Around} {E:Value→Shared→Prop} {s:Shared}
end
section
variable {X:Cx} {K:PySem.W.Frag}
end
end L2
namespace L2
open PySem PySem.Spec PyProof.Rows
section
open PySem.SeqAt
end
end L2
namespace L2
open PySem PySem.Spec PyProof.Rows
def Rp (H:Hp) (v:V) (txt:Str):Prop:=(∃ d,DV H v d∧d.showable=true∧d.depth≤60∧d.shown.length≤sizeLine∧txt=d.shown)∨∃ a,v=.ref a∧H a=some (.dK [])∧txt=("{}" : Str)
section
variable {X:Cx}
def Av:List V→Hp→VK→Prop:=fun xs H Q=>∃ x txt,xs=[x]∧Rp H x txt∧Q (.str txt) H
theorem nc (hg:X.A.guards=some []) (hu:X.A.units+64 < cLine):CallR X (.builtin "repr") Av:=by
 intro pins s σ H xs us Q I r h
 obtain ⟨x,txt,rfl,hd,q⟩:=h
 rcases hd with ⟨d,h1,h2,h3,h4,rfl⟩ | ⟨a,rfl,ha,rfl⟩
 ·exact oQ hg hu pins s σ H _ us Q I r ⟨x,d,rfl,h1,h2,h3,h4,q⟩
 ·obtain ⟨u,rfl,ru⟩:=bJ r
  cases ru
  obtain ⟨_,hsys,vs,kv,dd⟩:=i4 I.hok ha
  have hv:vs=[]:=by
   have e:=KV.length kv
   exact List.length_eq_zero_iff.mp e.symm
  subst hv
  have rd:Reads s.heap (.ref a) (.dict []) (a :: []++[]):=by
   obtain ⟨o,es,n,g1,g2,g3,_,g5,_⟩:=dd
   have h0:es.toList=[]:=by
    generalize es.toList=L at g5
    cases g5
    rfl
   refine .dict g1 g2.1 g3 ?_ ?_
   ·rw [h0]
    exact .nil
   ·rw [h0]
    exact .nil
  have e:(PyData.dict []).shown=("{}" : Str):=by decide +kernel
  refine repr_of_reads' rd (by decide +kernel) (fun _ hm=>?_) hg (by show X.A.units+(1+1) < cLine; omega) (fun _ _ e=>e) (fun h' u tk hk=>⟨.str _,H,I.kept (t':=tk) hk,⟨_,rfl⟩,?_⟩) (by rw [e]; decide)
  ·have hm':sysModules=a:=by simpa using hm
   rw [← hm'] at hsys
   simp at hsys
  ·rw [e]
   exact q
end
end L2
namespace L2
open PySem PySem.Spec PyProof.Rows
abbrev D:=PyData
abbrev En:=List (Option D)
abbrev AS:=Addr→Prop
def dn:Nat→Nat
 | 0=>0
 | 1=>0
 | 2=>1
 | n+3=>n+3
theorem jq:∀ {a b:Nat},a≤b→dn a≤dn b
 | 0,_,_=>Nat.zero_le _
 | 1,_,_=>Nat.zero_le _
 | 2,2,_=>Nat.le_refl _
 | 2,b+3,_=>by show 1≤b+3; omega
 | a+3,b+3,h=>h
 | a+3,0,h=>by omega
 | a+3,1,h=>by omega
 | a+3,2,h=>by omega
 | 2,0,h=>by omega
 | 2,1,h=>by omega
def kD:Key→D
 | .inl i=>.int i
 | .inr x=>.str x
def FzL (K:PySem.W.Frag) (O:AS) (H:Hp) (a:Addr) (vs:List V):Prop:=(Rd H a (.lst vs)∧¬ O a)∨∀ H',SqL K H' a vs
def FzT (K:PySem.W.Frag) (O:AS) (H:Hp) (a:Addr) (vs:List V):Prop:=H a=some (.tup vs)∧¬ O a
theorem FzL.sq {K:PySem.W.Frag} {O:AS} {H:Hp} {a:Addr} {vs:List V} (h:FzL K O H a vs):SqL K H a vs:=h.elim (fun h=>.inl h.1) fun h=>h H
theorem FzT.sq {K:PySem.W.Frag} {O:AS} {H:Hp} {a:Addr} {vs:List V} (h:FzT K O H a vs):SqT K H a vs:=SqT.of h.1
def Di (H:Hp) (O:AS) (ks:List (D × D)) (a:Addr):Prop:=∃ (kk:List Key) (b:Bool),ks=[(.tuple (kk.map kD),.bool b)]∧H a=some (.dT [(kk,.bl b)])∧¬ O a
mutual
def Ow (K:PySem.W.Frag) (O:AS) (H:Hp):D→Nat→V→AS→Prop
 | .none,_,v,_=>v=.non
 | .bool b,_,v,_=>v=.bl b
 | .int i,_,v,_=>v=.int i
 | .str x,_,v,_=>v=.str x
 | .tuple ts,d,v,F=>∃ a vs,v=.ref a∧((d=0∧FzT K O H a vs∧Ows K O H ts 0 vs F)∨(d≠0∧H a=some (.tup vs)∧F a∧∃ F':AS,(∀ b,F' b→F b∧b≠a)∧Ows K O H ts (dn d) vs F'))
 | .list ts,d,v,F=>∃ a vs,v=.ref a∧((d=0∧FzL K O H a vs∧Ows K O H ts 0 vs F)∨(d≠0∧H a=some (.lst vs)∧F a∧∃ F':AS,(∀ b,F' b→F b∧b≠a)∧Ows K O H ts (dn d) vs F'))
 | .dict ks,d,v,F=>∃ a vs,v=.ref a∧((d=0∧H a=some (.dK vs)∧¬ O a∧Owd K O H ks 0 vs F)∨(d≠0∧H a=some (.dK vs)∧F a∧∃ F':AS,(∀ b,F' b→F b∧b≠a)∧Owd K O H ks (dn d) vs F')∨(d=0∧Di H O ks a))
def Ows (K:PySem.W.Frag) (O:AS) (H:Hp):List D→Nat→List V→AS→Prop
 | [],_,vs,_=>vs=[]
 | t :: ts,d,vs,F=>∃ v r,∃ F1 F2:AS,vs=v :: r∧(∀ b,F1 b→F b)∧(∀ b,F2 b→F b)∧(∀ b,F1 b→¬ F2 b)∧Ow K O H t d v F1∧Ows K O H ts d r F2
def Owd (K:PySem.W.Frag) (O:AS) (H:Hp):List (D × D)→Nat→List (Key × V)→AS→Prop
 | [],_,vs,_=>vs=[]
 | (k,t) :: ts,d,vs,F=>∃ q v r,∃ F1 F2:AS,vs=(q,v) :: r∧k=kD q∧(∀ b,F1 b→F b)∧(∀ b,F2 b→F b)∧(∀ b,F1 b→¬ F2 b)∧Ow K O H t d v F1∧Owd K O H ts d r F2
end
section
variable {K:PySem.W.Frag} {O O':AS} {H H':Hp}
theorem Rd.mv {a:Addr} {u:HO} (hk:∀ o,H a=some o→H' a=some o) (h:Rd H a u):Rd H' a u:=by
 rcases h with h | ⟨o,h⟩
 ·exact .inl (hk _ h)
 ·exact .inr ⟨o,hk _ h⟩
theorem Rd.there {a:Addr} {u:HO} (h:Rd H a u):H a≠none:=by
 rcases h with h | ⟨o,h⟩ <;> rw [h] <;> exact fun z=>nomatch z
structure Mv (O O':AS) (G:AS) (H H':Hp):Prop where
 k:∀ a o,H a=some o→(¬ O a∨G a)→H' a=some o
 o:∀ a,O' a→O a∨H a=none
theorem FzL.mv {G:AS} {a:Addr} {vs:List V} (m:Mv O O' G H H') (h:FzL K O H a vs):FzL K O' H' a vs:=by
 rcases h with ⟨h,n⟩ | h
 ·refine .inl ⟨h.mv fun o e=>m.k _ _ e (.inl n),fun z=>?_⟩
  rcases m.o _ z with z | z
  ·exact n z
  ·exact h.there z
 ·exact .inr h
theorem FzT.mv {G:AS} {a:Addr} {vs:List V} (m:Mv O O' G H H') (h:FzT K O H a vs):FzT K O' H' a vs:=by
 obtain ⟨h,n⟩:=h
 refine ⟨m.k _ _ h (.inl n),fun z=>?_⟩
 rcases m.o _ z with z | z
 ·exact n z
 ·rw [h] at z; cases z
mutual
theorem Ow.mv {G:AS} (m:Mv O O' G H H'):∀ (t:D) {d:Nat} {v:V} {F:AS},(∀ b,F b→G b)→Ow K O H t d v F→Ow K O' H' t d v F
 | .none,_,_,_,_,h=>h
 | .bool _,_,_,_,_,h=>h
 | .int _,_,_,_,_,h=>h
 | .str _,_,_,_,_,h=>h
 | .tuple ts,_,_,_,g,h=>by
  obtain ⟨a,vs,e,⟨h0,h1,h2⟩ | ⟨h0,h1,h2,F',hf,h3⟩⟩:=h
  ·exact ⟨a,vs,e,.inl ⟨h0,h1.mv m,Ows.mv m ts g h2⟩⟩
  ·exact ⟨a,vs,e,.inr ⟨h0,m.k _ _ h1 (.inr (g _ h2)),h2,F',hf,Ows.mv m ts (fun b hb=>g _ (hf b hb).1) h3⟩⟩
 | .list ts,_,_,_,g,h=>by
  obtain ⟨a,vs,e,⟨h0,h1,h2⟩ | ⟨h0,h1,h2,F',hf,h3⟩⟩:=h
  ·exact ⟨a,vs,e,.inl ⟨h0,h1.mv m,Ows.mv m ts g h2⟩⟩
  ·exact ⟨a,vs,e,.inr ⟨h0,m.k _ _ h1 (.inr (g _ h2)),h2,F',hf,Ows.mv m ts (fun b hb=>g _ (hf b hb).1) h3⟩⟩
 | .dict ks,_,_,_,g,h=>by
  obtain ⟨a,vs,e,⟨h0,h1,hn,h2⟩ | ⟨h0,h1,h2,F',hf,h3⟩ | ⟨h0,kk,b,h1,h2,hn⟩⟩:=h
  ·refine ⟨a,vs,e,.inl ⟨h0,m.k _ _ h1 (.inl hn),fun z=>?_,Owd.mv m ks g h2⟩⟩
   rcases m.o _ z with z | z
   ·exact hn z
   ·rw [h1] at z; cases z
  ·exact ⟨a,vs,e,.inr (.inl ⟨h0,m.k _ _ h1 (.inr (g _ h2)),h2,F',hf,Owd.mv m ks (fun b hb=>g _ (hf b hb).1) h3⟩)⟩
  ·refine ⟨a,vs,e,.inr (.inr ⟨h0,kk,b,h1,m.k _ _ h2 (.inl hn),fun z=>?_⟩)⟩
   rcases m.o _ z with z | z
   ·exact hn z
   ·rw [h2] at z; cases z
theorem Ows.mv {G:AS} (m:Mv O O' G H H'):∀ (ts:List D) {d:Nat} {vs:List V} {F:AS},(∀ b,F b→G b)→Ows K O H ts d vs F→Ows K O' H' ts d vs F
 | [],_,_,_,_,h=>h
 | t :: ts,_,_,_,g,h=>by
  obtain ⟨v,r,F1,F2,e,h1,h2,h3,h4,h5⟩:=h
  exact ⟨v,r,F1,F2,e,h1,h2,h3,Ow.mv m t (fun b hb=>g _ (h1 b hb)) h4,Ows.mv m ts (fun b hb=>g _ (h2 b hb)) h5⟩
theorem Owd.mv {G:AS} (m:Mv O O' G H H'):∀ (ts:List (D × D)) {d:Nat} {vs:List (Key × V)} {F:AS},(∀ b,F b→G b)→Owd K O H ts d vs F→Owd K O' H' ts d vs F
 | [],_,_,_,_,h=>h
 | (k,t) :: ts,_,_,_,g,h=>by
  obtain ⟨q,v,r,F1,F2,e,e2,h1,h2,h3,h4,h5⟩:=h
  exact ⟨q,v,r,F1,F2,e,e2,h1,h2,h3,Ow.mv m t (fun b hb=>g _ (h1 b hb)) h4,Owd.mv m ts (fun b hb=>g _ (h2 b hb)) h5⟩
end
theorem FzL.sub {a:Addr} {vs:List V} (ho:∀ a,O' a→O a) (h:FzL K O H a vs):FzL K O' H a vs:=h.imp (fun h=>⟨h.1,fun z=>h.2 (ho _ z)⟩) id
theorem FzT.sub {a:Addr} {vs:List V} (ho:∀ a,O' a→O a) (h:FzT K O H a vs):FzT K O' H a vs:=⟨h.1,fun z=>h.2 (ho _ z)⟩
mutual
theorem Ow.cut:∀ (t:D) {d d':Nat} {v:V} {F:AS},d'≤d→Ow K O H t d v F→∃ F':AS,(∀ b,F' b→F b)∧∀ O':AS,(∀ a,O' a→O a)→(∀ a,F a→O' a→F' a)→Ow K O' H t d' v F'
 | .none,_,_,_,F,_,h=>⟨F,fun _ z=>z,fun _ _ _=>h⟩
 | .bool _,_,_,_,F,_,h=>⟨F,fun _ z=>z,fun _ _ _=>h⟩
 | .int _,_,_,_,F,_,h=>⟨F,fun _ z=>z,fun _ _ _=>h⟩
 | .str _,_,_,_,F,_,h=>⟨F,fun _ z=>z,fun _ _ _=>h⟩
 | .tuple ts,d,d',_,F,hd,h=>by
  obtain ⟨a,vs,e,⟨h0,h1,h2⟩ | ⟨h0,h1,h2,G,hg,h3⟩⟩:=h
  ·subst h0
   have e0:d'=0:=by omega
   subst e0
   obtain ⟨F',s1,s2⟩:=Ows.cut ts (Nat.le_refl _) h2
   exact ⟨F',s1,fun O' ho hx=>⟨a,vs,e,.inl ⟨rfl,h1.sub ho,s2 O' ho hx⟩⟩⟩
  ·by_cases e0:d'=0
   ·subst e0
    obtain ⟨F',s1,s2⟩:=Ows.cut ts (Nat.zero_le _) h3
    refine ⟨F',fun b hb=>(hg _ (s1 b hb)).1,fun O' ho hx=>⟨a,vs,e,.inl ⟨rfl,⟨h1,fun z=>(hg _ (s1 _ (hx _ h2 z))).2 rfl⟩,s2 O' ho fun b hb=>hx b (hg b hb).1⟩⟩⟩
   ·obtain ⟨F',s1,s2⟩:=Ows.cut ts (jq hd) h3
    refine ⟨fun b=>b=a∨F' b,fun b hb=>hb.elim (fun z=>z ▸ h2) fun z=>(hg _ (s1 b z)).1,fun O' ho hx=>⟨a,vs,e,.inr ⟨e0,h1,.inl rfl,F',fun b hb=>⟨.inr hb,(hg _ (s1 b hb)).2⟩,s2 O' ho fun b hb hz=>?_⟩⟩⟩
    exact (hx b (hg b hb).1 hz).elim (fun z=>absurd z (hg b hb).2) id
 | .list ts,d,d',_,F,hd,h=>by
  obtain ⟨a,vs,e,⟨h0,h1,h2⟩ | ⟨h0,h1,h2,G,hg,h3⟩⟩:=h
  ·subst h0
   have e0:d'=0:=by omega
   subst e0
   obtain ⟨F',s1,s2⟩:=Ows.cut ts (Nat.le_refl _) h2
   exact ⟨F',s1,fun O' ho hx=>⟨a,vs,e,.inl ⟨rfl,h1.sub ho,s2 O' ho hx⟩⟩⟩
  ·by_cases e0:d'=0
   ·subst e0
    obtain ⟨F',s1,s2⟩:=Ows.cut ts (Nat.zero_le _) h3
    refine ⟨F',fun b hb=>(hg _ (s1 b hb)).1,fun O' ho hx=>⟨a,vs,e,.inl ⟨rfl,.inl ⟨.inl h1,fun z=>(hg _ (s1 _ (hx _ h2 z))).2 rfl⟩,s2 O' ho fun b hb=>hx b (hg b hb).1⟩⟩⟩
   ·obtain ⟨F',s1,s2⟩:=Ows.cut ts (jq hd) h3
    refine ⟨fun b=>b=a∨F' b,fun b hb=>hb.elim (fun z=>z ▸ h2) fun z=>(hg _ (s1 b z)).1,fun O' ho hx=>⟨a,vs,e,.inr ⟨e0,h1,.inl rfl,F',fun b hb=>⟨.inr hb,(hg _ (s1 b hb)).2⟩,s2 O' ho fun b hb hz=>?_⟩⟩⟩
    exact (hx b (hg b hb).1 hz).elim (fun z=>absurd z (hg b hb).2) id
 | .dict ts,d,d',_,F,hd,h=>by
  obtain ⟨a,vs,e,⟨h0,h1,hn,h2⟩ | ⟨h0,h1,h2,G,hg,h3⟩ | ⟨h0,kk,b,h1,h2,hn⟩⟩:=h
  ·subst h0
   have e0:d'=0:=by omega
   subst e0
   obtain ⟨F',s1,s2⟩:=Owd.cut ts (Nat.le_refl _) h2
   exact ⟨F',s1,fun O' ho hx=>⟨a,vs,e,.inl ⟨rfl,h1,fun z=>hn (ho _ z),s2 O' ho hx⟩⟩⟩
  ·by_cases e0:d'=0
   ·subst e0
    obtain ⟨F',s1,s2⟩:=Owd.cut ts (Nat.zero_le _) h3
    refine ⟨F',fun b hb=>(hg _ (s1 b hb)).1,fun O' ho hx=>⟨a,vs,e,.inl ⟨rfl,h1,fun z=>(hg _ (s1 _ (hx _ h2 z))).2 rfl,s2 O' ho fun b hb=>hx b (hg b hb).1⟩⟩⟩
   ·obtain ⟨F',s1,s2⟩:=Owd.cut ts (jq hd) h3
    refine ⟨fun b=>b=a∨F' b,fun b hb=>hb.elim (fun z=>z ▸ h2) fun z=>(hg _ (s1 b z)).1,fun O' ho hx=>⟨a,vs,e,.inr (.inl ⟨e0,h1,.inl rfl,F',fun b hb=>⟨.inr hb,(hg _ (s1 b hb)).2⟩,s2 O' ho fun b hb hz=>?_⟩)⟩⟩
    exact (hx b (hg b hb).1 hz).elim (fun z=>absurd z (hg b hb).2) id
  ·subst h0
   have e0:d'=0:=by omega
   subst e0
   exact ⟨F,fun _ z=>z,fun O' ho hx=>⟨a,vs,e,.inr (.inr ⟨rfl,kk,b,h1,h2,fun z=>hn (ho _ z)⟩)⟩⟩
theorem Ows.cut:∀ (ts:List D) {d d':Nat} {vs:List V} {F:AS},d'≤d→Ows K O H ts d vs F→∃ F':AS,(∀ b,F' b→F b)∧∀ O':AS,(∀ a,O' a→O a)→(∀ a,F a→O' a→F' a)→Ows K O' H ts d' vs F'
 | [],_,_,_,F,_,h=>⟨F,fun _ z=>z,fun _ _ _=>h⟩
 | t :: ts,_,_,_,F,hd,h=>by
  obtain ⟨v,r,F1,F2,e,h1,h2,h3,h4,h5⟩:=h
  obtain ⟨G1,a1,a2⟩:=Ow.cut t hd h4
  obtain ⟨G2,b1,b2⟩:=Ows.cut ts hd h5
  refine ⟨fun b=>G1 b∨G2 b,fun b hb=>hb.elim (fun z=>h1 _ (a1 _ z)) fun z=>h2 _ (b1 _ z),fun O' ho hx=>⟨v,r,G1,G2,e,fun b=>.inl,fun b=>.inr,fun b z1 z2=>h3 b (a1 b z1) (b1 b z2),a2 O' ho fun b hb hz=>?_,b2 O' ho fun b hb hz=>?_⟩⟩
  ·exact (hx b (h1 b hb) hz).elim id fun z=>absurd (b1 b z) (h3 b hb)
  ·exact (hx b (h2 b hb) hz).elim (fun z=>absurd hb (h3 b (a1 b z))) id
theorem Owd.cut:∀ (ts:List (D × D)) {d d':Nat} {vs:List (Key × V)} {F:AS},d'≤d→Owd K O H ts d vs F→∃ F':AS,(∀ b,F' b→F b)∧∀ O':AS,(∀ a,O' a→O a)→(∀ a,F a→O' a→F' a)→Owd K O' H ts d' vs F'
 | [],_,_,_,F,_,h=>⟨F,fun _ z=>z,fun _ _ _=>h⟩
 | (k,t) :: ts,_,_,_,F,hd,h=>by
  obtain ⟨q,v,r,F1,F2,e,e2,h1,h2,h3,h4,h5⟩:=h
  obtain ⟨G1,a1,a2⟩:=Ow.cut t hd h4
  obtain ⟨G2,b1,b2⟩:=Owd.cut ts hd h5
  refine ⟨fun b=>G1 b∨G2 b,fun b hb=>hb.elim (fun z=>h1 _ (a1 _ z)) fun z=>h2 _ (b1 _ z),fun O' ho hx=>⟨q,v,r,G1,G2,e,e2,fun b=>.inl,fun b=>.inr,fun b z1 z2=>h3 b (a1 b z1) (b1 b z2),a2 O' ho fun b hb hz=>?_,b2 O' ho fun b hb hz=>?_⟩⟩
  ·exact (hx b (h1 b hb) hz).elim id fun z=>absurd (b1 b z) (h3 b hb)
  ·exact (hx b (h2 b hb) hz).elim (fun z=>absurd hb (h3 b (a1 b z))) id
end
mutual
theorem Ow.grow (ho:∀ a,O' a→O a):∀ (t:D) {d:Nat} {v:V} {F F':AS},(∀ b,F b→F' b)→Ow K O H t d v F→Ow K O' H t d v F'
 | .none,_,_,_,_,_,h=>h
 | .bool _,_,_,_,_,_,h=>h
 | .int _,_,_,_,_,_,h=>h
 | .str _,_,_,_,_,_,h=>h
 | .tuple ts,_,_,_,_,hf,h=>by
  obtain ⟨a,vs,e,⟨h0,h1,h2⟩ | ⟨h0,h1,h2,G,hg,h3⟩⟩:=h
  ·exact ⟨a,vs,e,.inl ⟨h0,h1.sub ho,Ows.grow ho ts hf h2⟩⟩
  ·exact ⟨a,vs,e,.inr ⟨h0,h1,hf _ h2,G,fun b hb=>⟨hf _ (hg b hb).1,(hg b hb).2⟩,Ows.grow ho ts (fun _ z=>z) h3⟩⟩
 | .list ts,_,_,_,_,hf,h=>by
  obtain ⟨a,vs,e,⟨h0,h1,h2⟩ | ⟨h0,h1,h2,G,hg,h3⟩⟩:=h
  ·exact ⟨a,vs,e,.inl ⟨h0,h1.sub ho,Ows.grow ho ts hf h2⟩⟩
  ·exact ⟨a,vs,e,.inr ⟨h0,h1,hf _ h2,G,fun b hb=>⟨hf _ (hg b hb).1,(hg b hb).2⟩,Ows.grow ho ts (fun _ z=>z) h3⟩⟩
 | .dict ts,_,_,_,_,hf,h=>by
  obtain ⟨a,vs,e,⟨h0,h1,hn,h2⟩ | ⟨h0,h1,h2,G,hg,h3⟩ | ⟨h0,kk,b,h1,h2,hn⟩⟩:=h
  ·exact ⟨a,vs,e,.inl ⟨h0,h1,fun z=>hn (ho _ z),Owd.grow ho ts hf h2⟩⟩
  ·exact ⟨a,vs,e,.inr (.inl ⟨h0,h1,hf _ h2,G,fun b hb=>⟨hf _ (hg b hb).1,(hg b hb).2⟩,Owd.grow ho ts (fun _ z=>z) h3⟩)⟩
  ·exact ⟨a,vs,e,.inr (.inr ⟨h0,kk,b,h1,h2,fun z=>hn (ho _ z)⟩)⟩
theorem Ows.grow (ho:∀ a,O' a→O a):∀ (ts:List D) {d:Nat} {vs:List V} {F F':AS},(∀ b,F b→F' b)→Ows K O H ts d vs F→Ows K O' H ts d vs F'
 | [],_,_,_,_,_,h=>h
 | t :: ts,_,_,_,_,hf,h=>by
  obtain ⟨v,r,F1,F2,e,h1,h2,h3,h4,h5⟩:=h
  exact ⟨v,r,F1,F2,e,fun b z=>hf _ (h1 b z),fun b z=>hf _ (h2 b z),h3,Ow.grow ho t (fun _ z=>z) h4,Ows.grow ho ts (fun _ z=>z) h5⟩
theorem Owd.grow (ho:∀ a,O' a→O a):∀ (ts:List (D × D)) {d:Nat} {vs:List (Key × V)} {F F':AS},(∀ b,F b→F' b)→Owd K O H ts d vs F→Owd K O' H ts d vs F'
 | [],_,_,_,_,_,h=>h
 | (k,t) :: ts,_,_,_,_,hf,h=>by
  obtain ⟨q,v,r,F1,F2,e,e2,h1,h2,h3,h4,h5⟩:=h
  exact ⟨q,v,r,F1,F2,e,e2,fun b z=>hf _ (h1 b z),fun b z=>hf _ (h2 b z),h3,Ow.grow ho t (fun _ z=>z) h4,Owd.grow ho ts (fun _ z=>z) h5⟩
end
mutual
theorem Ow.full:∀ (t:D) {d:Nat} {v:V} {F:AS},Ow K O H t (d+3) v F→Ow K O' H t (d+3) v F
 | .none,_,_,_,h=>h
 | .bool _,_,_,_,h=>h
 | .int _,_,_,_,h=>h
 | .str _,_,_,_,h=>h
 | .tuple ts,_,_,_,h=>by
  obtain ⟨a,vs,e,⟨h0,h1,h2⟩ | ⟨h0,h1,h2,G,hg,h3⟩⟩:=h
  ·cases h0
  ·exact ⟨a,vs,e,.inr ⟨h0,h1,h2,G,hg,Ows.full ts h3⟩⟩
 | .list ts,_,_,_,h=>by
  obtain ⟨a,vs,e,⟨h0,h1,h2⟩ | ⟨h0,h1,h2,G,hg,h3⟩⟩:=h
  ·cases h0
  ·exact ⟨a,vs,e,.inr ⟨h0,h1,h2,G,hg,Ows.full ts h3⟩⟩
 | .dict ts,_,_,_,h=>by
  obtain ⟨a,vs,e,⟨h0,h1,hn,h2⟩ | ⟨h0,h1,h2,G,hg,h3⟩ | ⟨h0,_⟩⟩:=h
  ·cases h0
  ·exact ⟨a,vs,e,.inr (.inl ⟨h0,h1,h2,G,hg,Owd.full ts h3⟩)⟩
  ·cases h0
theorem Ows.full:∀ (ts:List D) {d:Nat} {vs:List V} {F:AS},Ows K O H ts (d+3) vs F→Ows K O' H ts (d+3) vs F
 | [],_,_,_,h=>h
 | t :: ts,_,_,_,h=>by
  obtain ⟨v,r,F1,F2,e,h1,h2,h3,h4,h5⟩:=h
  exact ⟨v,r,F1,F2,e,h1,h2,h3,Ow.full t h4,Ows.full ts h5⟩
theorem Owd.full:∀ (ts:List (D × D)) {d:Nat} {vs:List (Key × V)} {F:AS},Owd K O H ts (d+3) vs F→Owd K O' H ts (d+3) vs F
 | [],_,_,_,h=>h
 | (k,t) :: ts,_,_,_,h=>by
  obtain ⟨q,v,r,F1,F2,e,e2,h1,h2,h3,h4,h5⟩:=h
  exact ⟨q,v,r,F1,F2,e,e2,h1,h2,h3,Ow.full t h4,Owd.full ts h5⟩
end
mutual
theorem Ow.any0:∀ (t:D) {v:V} {F F':AS},Ow K O H t 0 v F→Ow K O H t 0 v F'
 | .none,_,_,_,h=>h
 | .bool _,_,_,_,h=>h
 | .int _,_,_,_,h=>h
 | .str _,_,_,_,h=>h
 | .tuple ts,_,_,_,h=>by
  obtain ⟨a,vs,e,⟨h0,h1,h2⟩ | ⟨h0,_⟩⟩:=h
  ·exact ⟨a,vs,e,.inl ⟨rfl,h1,Ows.any0 ts h2⟩⟩
  ·exact absurd rfl h0
 | .list ts,_,_,_,h=>by
  obtain ⟨a,vs,e,⟨h0,h1,h2⟩ | ⟨h0,_⟩⟩:=h
  ·exact ⟨a,vs,e,.inl ⟨rfl,h1,Ows.any0 ts h2⟩⟩
  ·exact absurd rfl h0
 | .dict ts,_,_,_,h=>by
  obtain ⟨a,vs,e,⟨h0,h1,hn,h2⟩ | ⟨h0,_⟩ | ⟨_,kk,b,h1,h2,hn⟩⟩:=h
  ·exact ⟨a,vs,e,.inl ⟨rfl,h1,hn,Owd.any0 ts h2⟩⟩
  ·exact absurd rfl h0
  ·exact ⟨a,vs,e,.inr (.inr ⟨rfl,kk,b,h1,h2,hn⟩)⟩
theorem Ows.any0:∀ (ts:List D) {vs:List V} {F F':AS},Ows K O H ts 0 vs F→Ows K O H ts 0 vs F'
 | [],_,_,_,h=>h
 | t :: ts,_,_,_,h=>by
  obtain ⟨v,r,F1,F2,e,_,_,_,h4,h5⟩:=h
  exact ⟨v,r,fun _=>False,fun _=>False,e,fun _ z=>z.elim,fun _ z=>z.elim,fun _ z=>z.elim,Ow.any0 t h4,Ows.any0 ts h5⟩
theorem Owd.any0:∀ (ts:List (D × D)) {vs:List (Key × V)} {F F':AS},Owd K O H ts 0 vs F→Owd K O H ts 0 vs F'
 | [],_,_,_,h=>h
 | (k,t) :: ts,_,_,_,h=>by
  obtain ⟨q,v,r,F1,F2,e,e2,_,_,_,h4,h5⟩:=h
  exact ⟨q,v,r,fun _=>False,fun _=>False,e,e2,fun _ z=>z.elim,fun _ z=>z.elim,fun _ z=>z.elim,Ow.any0 t h4,Owd.any0 ts h5⟩
end
theorem Ow.fz {t:D} {d:Nat} {v:V} {F F2:AS} (ho:∀ a,O' a→O a) (hn:∀ a,F a→¬ O' a) (h:Ow K O H t d v F):Ow K O' H t 0 v F2:=by
 obtain ⟨F',s1,s2⟩:=Ow.cut t (Nat.zero_le d) h
 exact Ow.any0 t (s2 O' ho fun a z1 z2=>absurd z2 (hn a z1))
end
def U (A B:AS):AS:=fun a=>A a∨B a
def Own (R:Nat→AS) (Ox:AS):AS:=fun a=>(∃ i,R i a)∨Ox a
theorem di {A B:AS} (h:∀ a,A a↔B a):A=B:=funext fun a=>propext (h a)
structure EnvOk (K:PySem.W.Frag) (ds:List Nat) (Ox:AS) (H:Hp) (σ:St) (en:En) (R:Nat→AS):Prop where
 at_:∀ (i:Nat) (t:D),en[i]?=some (some t)→∃ v d,σ[i]?=some (some v)∧ds[i]?=some d∧Ow K (Own R Ox) H t d v (R i)
 dj:∀ i j a,R i a→R j a→i=j
 dx:∀ i a,R i a→¬ Ox a
 dom:∀ a,Own R Ox a→∃ o,H a=some o
 l1:en.length=σ.length
 l2:ds.length=σ.length
structure Post (K:PySem.W.Frag) (p:Bool) (ds':List Nat) (Ox:AS) (σ:St) (H:Hp) (en:En) (R:Nat→AS) (en':En) (H':Hp) (R':Nat→AS) (F:AS):Prop where
 env:EnvOk K ds' (U F Ox) H' σ en' R'
 fx:∀ a,F a→¬ Ox a
 keep:∀ a o,H a=some o→(∀ i,¬ R i a)→H' a=some o
 own:∀ a,(F a∨∃ i,R' i a)→(∃ i,R i a)∨H a=none
 dom:∀ a o,H a=some o→∃ o',H' a=some o'
 pure:p=true→en'=en∧R'=R∧∀ a o,H a=some o→H' a=some o
section
variable {K:PySem.W.Frag} {p p1 p2:Bool} {ds ds1 ds2 ds':List Nat} {Ox Ox':AS} {H H':Hp} {σ:St} {en en' en1 en2:En} {R R':Nat→AS} {d d1 d2:Nat} {t1 t2:D}
theorem EnvOk.grow (e:EnvOk K ds Ox H σ en R) (hk:∀ a o,H a=some o→H' a=some o) {F:AS} (hf:∀ a,F a→H a=none∧∃ o,H' a=some o):EnvOk K ds (U F Ox) H' σ en R:=by
 have fo:∀ a,F a→¬ Own R Ox a:=fun a z z2=>by
  obtain ⟨o,q⟩:=e.dom a z2
  rw [(hf a z).1] at q
  cases q
 refine ⟨fun i t h=>?_,e.dj,fun i a h z=>?_,fun a h=>?_,e.l1,e.l2⟩
 ·obtain ⟨v,d,h1,h2,h3⟩:=e.at_ i t h
  refine ⟨v,d,h1,h2,Ow.mv (G:=R i) ⟨fun a o q _=>hk a o q,fun a z=>?_⟩ t (fun _ z=>z) h3⟩
  rcases z with z | z | z
  ·exact .inl (.inl z)
  ·exact .inr (hf a z).1
  ·exact .inl (.inr z)
 ·rcases z with z | z
  ·exact fo a z (.inl ⟨i,h⟩)
  ·exact e.dx i a h z
 ·rcases h with h | h | h
  ·obtain ⟨o,q⟩:=e.dom a (.inl h)
   exact ⟨o,hk a o q⟩
  ·exact (hf a h).2
  ·obtain ⟨o,q⟩:=e.dom a (.inr h)
   exact ⟨o,hk a o q⟩
theorem EnvOk.fewer (e:EnvOk K ds Ox H σ en R) (h:∀ a,Ox' a→Ox a):EnvOk K ds Ox' H σ en R:=by
 refine ⟨fun i t q=>?_,e.dj,fun i a z1 z2=>e.dx i a z1 (h a z2),fun a z=>e.dom a (z.imp id (h a)),e.l1,e.l2⟩
 obtain ⟨v,d,h1,h2,h3⟩:=e.at_ i t q
 exact ⟨v,d,h1,h2,Ow.grow (fun a z=>z.imp id (h a)) t (fun _ z=>z) h3⟩
def tF (K:PySem.W.Frag) (p:Bool) (ds ds':List Nat) (d:Nat) (f:En→Option (D × En)):TE:=fun σ H Q =>
 ∃ Ox en R t en',EnvOk K ds Ox H σ en R∧f en=some (t,en')∧∀ v H' R' F,Post K p ds' Ox σ H en R en' H' R' F→Ow K (Own R' (U F Ox)) H' t d v F→Q v H'
theorem Post.refl (e:EnvOk K ds Ox H σ en R):Post K p ds Ox σ H en R en H R (fun _=>False):=by
 have eq:U (fun _=>False) Ox=Ox:=di fun a=>⟨fun z=>z.elim (fun z=>z.elim) id,.inr⟩
 exact ⟨eq.symm ▸ e,fun _ z=>z.elim,fun _ _ q _=>q,fun a z=>z.elim (fun z=>z.elim) .inl,fun a o q=>⟨o,q⟩,fun _=>⟨rfl,rfl,fun _ _ q=>q⟩⟩
theorem Post.new (e:EnvOk K ds Ox H σ en R) (hk:∀ a o,H a=some o→H' a=some o) {F:AS} (hf:∀ a,F a→H a=none∧∃ o,H' a=some o):Post K p ds Ox σ H en R en H' R F:=by
 refine ⟨e.grow hk hf,fun a z z2=>?_,fun a o q _=>hk a o q,fun a z=>z.elim (fun z=>.inr (hf a z).1) .inl,fun a o q=>⟨o,hk a o q⟩,fun _=>⟨rfl,rfl,hk⟩⟩
 obtain ⟨o,q⟩:=e.dom a (.inr z2)
 rw [(hf a z).1] at q
 cases q
theorem Post.trans {H1 H2:Hp} {R1 R2:Nat→AS} {F1 F2:AS} (P1:Post K p1 ds1 Ox σ H en R en1 H1 R1 F1) (P2:Post K p2 ds2 (U F1 Ox) σ H1 en1 R1 en2 H2 R2 F2) :
  Post K (p1 && p2) ds2 Ox σ H en R en2 H2 R2 (U F1 F2):=by
 have eq:U F2 (U F1 Ox)=U (U F1 F2) Ox:=di fun a=>by unfold U; exact ⟨fun z=>by rcases z with z | z | z; exact .inl (.inr z); exact .inl (.inl z); exact .inr z,fun z=>by rcases z with (z | z) | z; exact .inr (.inl z); exact .inl z; exact .inr (.inr z)⟩
 have n1:∀ a,H1 a=none→H a=none:=fun a z=>by
  cases q:H a with
  | none=>rfl
  | some o =>
   obtain ⟨o',q'⟩:=P1.dom a o q
   rw [z] at q'
   cases q'
 refine ⟨eq ▸ P2.env,fun a z z2=>?_,fun a o q n=>?_,fun a z=>?_,fun a o q=>?_,fun hp=>?_⟩
 ·rcases z with z | z
  ·exact P1.fx a z z2
  ·exact P2.fx a z (.inr z2)
 ·refine P2.keep a o (P1.keep a o q n) fun i z=>?_
  rcases P1.own a (.inr ⟨i,z⟩) with ⟨j,z⟩ | z
  ·exact n j z
  ·rw [q] at z; cases z
 ·rcases z with (z | z) | z
  ·exact P1.own a (.inl z)
  ·rcases P2.own a (.inl z) with z | z
   ·exact P1.own a (.inr z)
   ·exact .inr (n1 a z)
  ·rcases P2.own a (.inr z) with z | z
   ·exact P1.own a (.inr z)
   ·exact .inr (n1 a z)
 ·obtain ⟨o',q'⟩:=P1.dom a o q
  exact P2.dom a o' q'
 ·have h1:p1=true:=by cases p1 <;> simp_all
  have h2:p2=true:=by cases p2 <;> simp_all
  obtain ⟨a1,a2,a3⟩:=P1.pure h1
  obtain ⟨b1,b2,b3⟩:=P2.pure h2
  exact ⟨b1.trans a1,b2.trans a2,fun a o q=>b3 a o (a3 a o q)⟩
theorem Ow.over {H1 H2:Hp} {R1 R2:Nat→AS} {F1 F2:AS} {t:D} {v:V} (P1:EnvOk K ds1 (U F1 Ox) H1 σ en1 R1) (P2:Post K p2 ds2 (U F1 Ox) σ H1 en1 R1 en2 H2 R2 F2) (h:Ow K (Own R1 (U F1 Ox)) H1 t d v F1) :
  Ow K (Own R2 (U (U F1 F2) Ox)) H2 t d v F1:=by
 refine Ow.mv (G:=F1) ⟨fun a o q z=>P2.keep a o q fun i zi=>?_,fun a z=>?_⟩ t (fun _ z=>z) h
 ·rcases z with z | z
  ·exact z (.inl ⟨i,zi⟩)
  ·exact P1.dx i a zi (.inl z)
 ·rcases z with z | (z | z) | z
  ·rcases P2.own a (.inr z) with z | z
   ·exact .inl (.inl z)
   ·exact .inr z
  ·exact .inl (.inr (.inl z))
  ·rcases P2.own a (.inl z) with z | z
   ·exact .inl (.inl z)
   ·exact .inr z
  ·exact .inl (.inr (.inr z))
theorem ja {F1 F2:AS}:U F2 (U F1 Ox)=U (U F1 F2) Ox:=di fun a=>by unfold U; exact ⟨fun z=>by rcases z with z | z | z; exact .inl (.inr z); exact .inl (.inl z); exact .inr z,fun z=>by rcases z with (z | z) | z; exact .inr (.inl z); exact .inl z; exact .inr (.inr z)⟩
theorem two {f g:En→Option (D × En)} {Q:V→V→Hp→Prop} (e:EnvOk K ds Ox H σ en R) (h1:f en=some (t1,en1)) (h2:g en1=some (t2,en2))
  (k:∀ x y H2 R2 F1 F2,Post K (p1 && p2) ds2 Ox σ H en R en2 H2 R2 (U F1 F2)→Ow K (Own R2 (U (U F1 F2) Ox)) H2 t1 d1 x F1→Ow K (Own R2 (U (U F1 F2) Ox)) H2 t2 d2 y F2→Q x y H2) :
  tF K p1 ds ds1 d1 f σ H fun x H1=>tF K p2 ds1 ds2 d2 g σ H1 fun y H2=>Q x y H2:=by
 refine ⟨Ox,en,R,t1,en1,e,h1,fun x H1 R1 F1 P1 o1=>?_⟩
 refine ⟨U F1 Ox,en1,R1,t2,en2,P1.env,h2,fun y H2 R2 F2 P2 o2=>?_⟩
 exact k x y H2 R2 F1 F2 (P1.trans P2) (Ow.over P1.env P2 o1) (ja ▸ o2)
end
end L2
namespace L2
open PySem PySem.Spec PyProof.Rows
abbrev ME:=En→Option (D × En)
abbrev MT:=En→Option (Bool × En)
abbrev MA:=En→Option (List (D ⊕ Nat) × En)
def ae (i:Nat):ME:=fun en=>(en[i]?).join.map fun t=>(t,en)
def eMv (i:Nat):ME:=fun en=>(en[i]?).join.map fun t=>(t,en.set i none)
def eC (t:D):ME:=fun en=>some (t,en)
def e1 (g:D→Option D) (f:ME):ME:=fun en=>(f en).bind fun r=>(g r.1).map fun t=>(t,r.2)
def e2 (g:D→D→Option D) (f1 f2:ME):ME:=fun en=>(f1 en).bind fun r=>(f2 r.2).bind fun q=>(g r.1 q.1).map fun t=>(t,q.2)
def ie (f g:ME):ME:=fun en=>(f en).bind fun r=>match r.1 with
 | .bool true=>g r.2
 | .bool false=>some (.bool false,r.2)
 | _=>none
def eOr (f g:ME):ME:=fun en=>(f en).bind fun r=>match r.1 with
 | .bool true=>some (.bool true,r.2)
 | .bool false=>g r.2
 | _=>none
def DP (f:ME):ME:=fun en=>(f en).bind fun r=>match r.1 with
 | .bool b=>some (.bool (!b),r.2)
 | _=>none
def eIf (c:MT) (f g:ME):ME:=fun en=>(c en).bind fun r=>if r.1 then f r.2 else g r.2
def tV (f:ME):MT:=fun en=>(f en).bind fun r=>match r.1 with
 | .bool b=>some (b,r.2)
 | _=>none
def dW (f g:MT):MT:=fun en=>(f en).bind fun r=>if r.1 then g r.2 else some (false,r.2)
def bOr (f g:MT):MT:=fun en=>(f en).bind fun r=>if r.1 then some (true,r.2) else g r.2
def cU (f:MT):MT:=fun en=>(f en).map fun r=>(!r.1,r.2)
def ah:MA:=fun en=>some ([],en)
def ad (f:ME) (r:MA):MA:=fun en=>(f en).bind fun x=>(r x.2).map fun y=>(.inl x.1 :: y.1,y.2)
def bx (i:Nat) (r:MA):MA:=fun en=>(en[i]?).join.bind fun _=>(r en).map fun y=>(.inr i :: y.1,y.2)
def be:List (D ⊕ Nat)→Option (List D)
 | []=>some []
 | .inl t :: r=>(be r).map (t :: ·)
 | .inr _ :: _=>none
def eN (g:List D→Option D) (fa:MA):ME:=fun en=>(fa en).bind fun r=>(be r.1).bind fun ts=>(g ts).map fun t=>(t,r.2)
def NewTo (H H':Hp) (F:AS):Prop:=(∀ a o,H a=some o→H' a=some o)∧∀ a,F a→H a=none∧∃ o,H' a=some o
def NoA:AS:=fun _=>False
theorem cW {A:AS}:U NoA A=A:=di fun a=>⟨fun z=>z.elim (fun z=>z.elim) id,.inr⟩
def rF1 (K:PySem.W.Frag) (g:D→Option D) (d:Nat):V→Hp→VK→Prop:=fun x H Q=>∃ (O:AS) (a t:D),Ow K O H a 0 x NoA∧(∀ a,O a→∃ o,H a=some o)∧g a=some t∧∀ v H' F,NewTo H H' F→Ow K (U F O) H' t d v F→Q v H'
def rF2 (K:PySem.W.Frag) (g:D→D→Option D) (d:Nat):R2:=fun x y H Q=>∃ (O:AS) (a b t:D),Ow K O H a 0 x NoA∧Ow K O H b 0 y NoA∧(∀ a,O a→∃ o,H a=some o)∧g a b=some t∧∀ v H' F,NewTo H H' F→Ow K (U F O) H' t d v F→Q v H'
def rFn (K:PySem.W.Frag) (g:List D→Option D) (d:Nat):List V→Hp→VK→Prop:=fun xs H Q=>∃ (O:AS) (ts:List D) (t:D),Ows K O H ts 0 xs NoA∧(∀ a,O a→∃ o,H a=some o)∧g ts=some t∧∀ v H' F,NewTo H H' F→Ow K (U F O) H' t d v F→Q v H'
section
variable {K:PySem.W.Frag} {p p1 p2:Bool} {ds ds0 ds1 ds2 ds':List Nat} {Ox Ox':AS} {H H':Hp} {σ:St} {en en' en1 en2:En} {R R':Nat→AS} {d d' d1 d2:Nat} {t t1 t2:D} {Q:VK} {f f1 f2 fa fb:ME}
theorem jd {F:AS}:U F (Own R Ox)=Own R (U F Ox):=di fun a=>by
 unfold U Own
 exact ⟨fun z=>by rcases z with z | z | z; exact .inr (.inl z); exact .inl z; exact .inr (.inr z),fun z=>by rcases z with z | z | z; exact .inr (.inl z); exact .inl z; exact .inr (.inr z)⟩
theorem Post.fin {H1:Hp} {F0 F:AS} (P:Post K p ds' Ox σ H en R en' H1 R' F0) (n:NewTo H1 H' F):Post K p ds' Ox σ H en R en' H' R' F:=by
 have e:=P.env.fewer (Ox':=Ox) fun a z=>.inr z
 have n1:∀ a,H1 a=none→H a=none:=fun a z=>by
  cases q:H a with
  | none=>rfl
  | some o =>
   obtain ⟨o',q'⟩:=P.dom a o q
   rw [z] at q'
   cases q'
 refine ⟨e.grow n.1 n.2,fun a z z2=>?_,fun a o q nn=>n.1 a o (P.keep a o q nn),fun a z=>?_,fun a o q=>?_,fun hp=>?_⟩
 ·obtain ⟨o,q⟩:=e.dom a (.inr z2)
  rw [(n.2 a z).1] at q
  cases q
 ·rcases z with z | z
  ·exact .inr (n1 a (n.2 a z).1)
  ·exact P.own a (.inr z)
 ·obtain ⟨o',q'⟩:=P.dom a o q
  exact ⟨o',n.1 a o' q'⟩
 ·obtain ⟨a1,a2,a3⟩:=P.pure hp
  exact ⟨a1,a2,fun a o q=>n.1 a o (a3 a o q)⟩
theorem Post.less {F F':AS} (P:Post K p ds' Ox σ H en R en' H' R' F) (h:∀ a,F' a→F a):Post K p ds' Ox σ H en R en' H' R' F' :=
 ⟨P.env.fewer fun a z=>z.imp (h a) id,fun a z=>P.fx a (h a z),P.keep,fun a z=>P.own a (z.imp (h a) id),P.dom,P.pure⟩
theorem Ow.letgo {F F0:AS} {v:V} (P:Post K p ds' Ox σ H en R en' H' R' F0) (hf:∀ a,F a→F0 a) (h:Ow K (Own R' (U F0 Ox)) H' t d v F):Ow K (Own R' Ox) H' t 0 v NoA:=by
 refine Ow.fz (fun a z=>z.imp id .inr) (fun a z z2=>?_) h
 rcases z2 with ⟨i,z2⟩ | z2
 ·exact P.env.dx i a z2 (.inl (hf a z))
 ·exact P.fx a (hf a z) z2
theorem Post.doms {F0:AS} (P:Post K p ds' Ox σ H en R en' H' R' F0):∀ a,Own R' Ox a→∃ o,H' a=some o:=fun a z=>P.env.dom a (z.imp id .inr)
theorem CH (hd:ds[i]?=some 0) (h:tF K true ds ds 0 (ae i) σ H Q):fB i σ H Q:=by
 obtain ⟨Ox,en,R,t,en',e,hf,k⟩:=h
 unfold ae at hf
 cases q:en[i]? with
 | none=>rw [q] at hf; cases hf
 | some o =>
  rw [q] at hf
  cases o with
  | none=>cases hf
  | some t' =>
   cases hf
   obtain ⟨v,d,h1,h2,h3⟩:=e.at_ i t q
   rw [hd] at h2
   cases h2
   exact ⟨v,h1,k v H R NoA (Post.refl e) (by rw [cW]; exact Ow.any0 t h3)⟩
theorem f_c {v:V} (hv:∀ K O H F,Ow K O H t 3 v F) (h:tF K true ds ds 3 (eC t) σ H Q):tC v σ H Q:=by
 obtain ⟨Ox,en,R,t',en',e,hf,k⟩:=h
 cases hf
 exact k v H R NoA (Post.refl e) (hv _ _ _ _)
theorem CJ (hd:d'≤d) (h:tF K p ds ds' d' f σ H Q):tF K p ds ds' d f σ H Q:=by
 obtain ⟨Ox,en,R,t,en',e,hf,k⟩:=h
 refine ⟨Ox,en,R,t,en',e,hf,fun v H' R' F P o=>?_⟩
 obtain ⟨F',s1,s2⟩:=Ow.cut t hd o
 refine k v H' R' F' (P.less s1) (s2 _ (fun a z=>z.imp id fun z=>z.imp (s1 a) id) fun a z z2=>?_)
 rcases z2 with ⟨i,z2⟩ | z2 | z2
 ·exact absurd (.inl z) (P.env.dx i a z2)
 ·exact z2
 ·exact absurd z2 (P.fx a z)
theorem eB (hp:p'=true→p=true) (h:tF K p' ds ds' d f σ H Q):tF K p ds ds' d f σ H Q:=by
 obtain ⟨Ox,en,R,t,en',e,hf,k⟩:=h
 exact ⟨Ox,en,R,t,en',e,hf,fun v H' R' F P o=>k v H' R' F ⟨P.env,P.fx,P.keep,P.own,P.dom,fun z=>P.pure (hp z)⟩ o⟩
theorem EnvOk.cut (e:EnvOk K ds Ox H σ en R) (hl:ds0.length=ds.length) (hd:∀ (i:Nat) a b,ds0[i]?=some a→ds[i]?=some b→a≤b):∃ R',(∀ i a,R' i a→R i a)∧EnvOk K ds0 Ox H σ en R':=by
 have ch:∀ i,∃ F':AS,(∀ b,F' b→R i b)∧∀ t v d0,en[i]?=some (some t)→σ[i]?=some (some v)→ds0[i]?=some d0→∀ O':AS,(∀ a,O' a→Own R Ox a)→(∀ a,R i a→O' a→F' a)→Ow K O' H t d0 v F':=fun i=>by
  by_cases h:∃ t,en[i]?=some (some t)
  ·obtain ⟨t,ht⟩:=h
   obtain ⟨v,d,h1,h2,h3⟩:=e.at_ i t ht
   cases q:ds0[i]? with
   | none=>exact ⟨NoA,fun _ z=>z.elim,fun _ _ _ _ _ z=>nomatch z⟩
   | some d0 =>
    obtain ⟨F',s1,s2⟩:=Ow.cut t (hd i d0 d q h2) h3
    refine ⟨F',s1,fun t' v' d0' h1' h2' h3' O'=>?_⟩
    rw [ht] at h1'; cases h1'
    rw [h1] at h2'; cases h2'
    cases h3'
    exact s2 O'
  ·exact ⟨NoA,fun _ z=>z.elim,fun t _ _ ht=>absurd ⟨t,ht⟩ h⟩
 refine ⟨fun i=>(ch i).choose,fun i=>(ch i).choose_spec.1,fun i t ht=>?_,fun i j a z1 z2=>e.dj i j a ((ch i).choose_spec.1 a z1) ((ch j).choose_spec.1 a z2),fun i a z=>e.dx i a ((ch i).choose_spec.1 a z),fun a z=>e.dom a (z.imp (fun ⟨i,z⟩=>⟨i,(ch i).choose_spec.1 a z⟩) id),e.l1,hl.trans e.l2⟩
 obtain ⟨v,d,h1,h2,h3⟩:=e.at_ i t ht
 have hi:i < ds0.length:=by rw [hl]; exact (List.getElem?_eq_some_iff.mp h2).1
 refine ⟨v,ds0[i],h1,List.getElem?_eq_getElem hi,(ch i).choose_spec.2 t v _ ht h1 (List.getElem?_eq_getElem hi) _ (fun a z=>z.imp (fun ⟨j,z⟩=>⟨j,(ch j).choose_spec.1 a z⟩) id) fun a z z2=>?_⟩
 rcases z2 with ⟨j,z2⟩ | z2
 ·have:=e.dj i j a z ((ch j).choose_spec.1 a z2)
  subst this
  exact z2
 ·exact absurd z2 (e.dx i a z)
def leD:List Nat→List Nat→Bool
 | [],[]=>true
 | a :: r,b :: s=>decide (a≤b) && leD r s
 | _,_=>false
theorem cj:∀ {a b:List Nat},leD a b=true→a.length=b.length∧∀ (i:Nat) x y,a[i]?=some x→b[i]?=some y→x≤y
 | [],[],_=>⟨rfl,fun i x y h=>by simp at h⟩
 | a :: r,b :: s,h=>by
  unfold leD at h
  rw [Bool.and_eq_true] at h
  obtain ⟨h1,h2⟩:=h
  obtain ⟨h3,h4⟩:=cj h2
  refine ⟨by rw [List.length_cons,List.length_cons,h3],fun i x y e1 e2=>?_⟩
  cases i with
  | zero=>cases e1; cases e2; exact of_decide_eq_true h1
  | succ i=>exact h4 i x y e1 e2
 | [],_ :: _,h=>nomatch h
 | _ :: _,[],h=>nomatch h
theorem Dc (hd:leD ds0 ds=true) (h:tF K false ds ds' d f σ H Q):tF K p ds0 ds' d f σ H Q:=by
 obtain ⟨Ox,en,R,t,en',e,hf,k⟩:=h
 obtain ⟨R1,s1,e1⟩:=e.cut (cj hd).1 (cj hd).2
 refine ⟨Ox,en,R1,t,en',e1,hf,fun v H' R' F P o=>k v H' R' F ⟨P.env,P.fx,fun a o q n=>P.keep a o q fun i z=>n i (s1 i a z),fun a z=>(P.own a z).imp (fun ⟨i,z⟩=>⟨i,s1 i a z⟩) id,P.dom,fun z=>nomatch z⟩ o⟩
theorem CO (hd:leD ds0 ds=true) (h:tF K true ds ds 3 f σ H Q):tF K true ds0 ds0 3 f σ H Q:=by
 obtain ⟨Ox,en,R,t,en',e,hf,k⟩:=h
 obtain ⟨R1,s1,e1⟩:=e.cut (cj hd).1 (cj hd).2
 refine ⟨Ox,en,R1,t,en',e1,hf,fun v H' R' F P o=>?_⟩
 obtain ⟨a1,a2,a3⟩:=P.pure rfl
 subst a1 a2
 have nf:∀ a,F a→H a=none:=fun a z=>by
  rcases P.own a (.inl z) with ⟨i,z2⟩ | z2
  ·exact absurd (.inl z) (P.env.dx i a z2)
  ·exact z2
 have nt:NewTo H H' F:=⟨a3,fun a z=>⟨nf a z,P.env.dom a (.inr (.inl z))⟩⟩
 exact k v H' R F (Post.new e nt.1 nt.2) (Ow.full t o)
theorem CK {g:D→Option D} (h:tF K p ds ds1 d (e1 g f) σ H Q):tUn (rF1 K g d) (tF K p ds ds1 d1 f) σ H Q:=by
 obtain ⟨Ox,en,R,t,en',e,hf,k⟩:=h
 unfold e1 at hf
 obtain ⟨⟨t1,en1⟩,h1,hf⟩:=Option.bind_eq_some_iff.mp hf
 obtain ⟨t',h3,hf⟩:=Option.map_eq_some_iff.mp hf
 cases hf
 refine ⟨Ox,en,R,t1,en1,e,h1,fun v H' R' F P o=>?_⟩
 refine ⟨Own R' Ox,t1,t,Ow.letgo P (fun _ z=>z) o,P.doms,h3,fun v2 H2 F2 n o2=>k v2 H2 R' F2 (P.fin n) (jd ▸ o2)⟩
theorem gQ {g:D→D→Option D} (h:tF K (p1 && p2) ds ds2 d (e2 g f1 f2) σ H Q):tOp (rF2 K g d) (tF K p1 ds ds1 d1 f1) (tF K p2 ds1 ds2 d2 f2) σ H Q:=by
 obtain ⟨Ox,en,R,t,en',e,hf,k⟩:=h
 unfold e2 at hf
 obtain ⟨⟨t1,en1⟩,h1,hf⟩:=Option.bind_eq_some_iff.mp hf
 obtain ⟨⟨t2,en2⟩,h2,hf⟩:=Option.bind_eq_some_iff.mp hf
 obtain ⟨t',h3,hf⟩:=Option.map_eq_some_iff.mp hf
 cases hf
 refine two e h1 h2 fun x y H2 R2 F1 F2 P o1 o2=>?_
 exact ⟨Own R2 Ox,t1,t2,t,Ow.letgo P (fun _=>.inl) o1,Ow.letgo P (fun _=>.inr) o2,P.doms,h3,fun v2 H3 F3 n o3=>k v2 H3 R2 F3 (P.fin n) (jd ▸ o3)⟩
theorem Post.after {H1:Hp} {R1 R2:Nat→AS} {F1 F:AS} (P1:Post K p1 ds1 Ox σ H en R en1 H1 R1 F1) (P2:Post K p2 ds2 Ox σ H1 en1 R1 en2 H' R2 F):Post K (p1 && p2) ds2 Ox σ H en R en2 H' R2 F:=by
 have P1':=P1.less (F':=NoA) fun _ z=>z.elim
 have P2':Post K p2 ds2 (U NoA Ox) σ H1 en1 R1 en2 H' R2 F:=by rw [cW]; exact P2
 have:=P1'.trans P2'
 rw [cW] at this
 exact this
theorem Post.env0 {F:AS} (P:Post K p ds' Ox σ H en R en' H' R' F):EnvOk K ds' Ox H' σ en' R':=P.env.fewer fun a z=>.inr z
theorem CQ (h:tF K (p1 && p2) ds ds1 d (ie f1 f2) σ H Q):v6 (tF K p1 ds ds1 d1 f1) (tF K p2 ds1 ds1 d f2) σ H Q:=by
 obtain ⟨Ox,en,R,t,en',e,hf,k⟩:=h
 unfold ie at hf
 obtain ⟨⟨t1,en1⟩,h1,hf⟩:=Option.bind_eq_some_iff.mp hf
 refine ⟨Ox,en,R,t1,en1,e,h1,fun v H1 R1 F1 P1 o1=>?_⟩
 cases t1 with
 | bool b =>
  have ev:v=.bl b:=o1
  refine ⟨b,ev,?_⟩
  cases b with
  | true =>
   rw [if_pos rfl]
   exact ⟨Ox,en1,R1,t,en',P1.env0,hf,fun v2 H2 R2 F2 P2 o2=>k v2 H2 R2 F2 (P1.after P2) o2⟩
  | false =>
   cases hf
   rw [if_neg Bool.false_ne_true]
   refine k _ H1 R1 NoA ?_ rfl
   have:=(P1.less (F':=NoA) fun _ z=>z.elim)
   exact ⟨this.env,this.fx,this.keep,this.own,this.dom,fun hp=>this.pure (by cases p1 <;> simp_all)⟩
 | _=>cases hf
def tFT (K:PySem.W.Frag) (p:Bool) (ds ds':List Nat) (f:MT):TT:=fun σ H Q =>
 ∃ Ox en R b en',EnvOk K ds Ox H σ en R∧f en=some (b,en')∧∀ H' R',Post K p ds' Ox σ H en R en' H' R' NoA→Q b H'
variable {c c1 c2:MT} {QT:Bool→Hp→Prop}
theorem iT (h:tFT K p ds ds' (tV f) σ H QT):tB (tF K p ds ds' d f) σ H QT:=by
 obtain ⟨Ox,en,R,b,en',e,hf,k⟩:=h
 unfold tV at hf
 obtain ⟨⟨t1,en1⟩,h1,hf⟩:=Option.bind_eq_some_iff.mp hf
 refine ⟨Ox,en,R,t1,en1,e,h1,fun v H1 R1 F1 P1 o1=>?_⟩
 cases t1 with
 | bool b =>
  cases hf
  exact ⟨_,o1,k H1 R1 (P1.less fun _ z=>z.elim)⟩
 | _=>cases hf
theorem Bo (h:tFT K (p1 && p2) ds ds1 (dW c1 c2) σ H QT):Ap (tFT K p1 ds ds1 c1) (tFT K p2 ds1 ds1 c2) σ H QT:=by
 obtain ⟨Ox,en,R,b,en',e,hf,k⟩:=h
 unfold dW at hf
 obtain ⟨⟨b1,en1⟩,h1,hf⟩:=Option.bind_eq_some_iff.mp hf
 refine ⟨Ox,en,R,b1,en1,e,h1,fun H1 R1 P1=>?_⟩
 cases b1 with
 | true =>
  rw [if_pos rfl]
  exact ⟨Ox,en1,R1,b,en',P1.env0,hf,fun H2 R2 P2=>k H2 R2 (P1.after P2)⟩
 | false =>
  cases hf
  rw [if_neg Bool.false_ne_true]
  exact k H1 R1 ⟨P1.env,P1.fx,P1.keep,P1.own,P1.dom,fun hp=>P1.pure (by cases p1 <;> simp_all)⟩
theorem Ct (h:tFT K (p1 && p2) ds ds1 (bOr c1 c2) σ H QT):tOr (tFT K p1 ds ds1 c1) (tFT K p2 ds1 ds1 c2) σ H QT:=by
 obtain ⟨Ox,en,R,b,en',e,hf,k⟩:=h
 unfold bOr at hf
 obtain ⟨⟨b1,en1⟩,h1,hf⟩:=Option.bind_eq_some_iff.mp hf
 refine ⟨Ox,en,R,b1,en1,e,h1,fun H1 R1 P1=>?_⟩
 cases b1 with
 | false =>
  rw [if_neg Bool.false_ne_true]
  exact ⟨Ox,en1,R1,b,en',P1.env0,hf,fun H2 R2 P2=>k H2 R2 (P1.after P2)⟩
 | true =>
  cases hf
  rw [if_pos rfl]
  exact k H1 R1 ⟨P1.env,P1.fx,P1.keep,P1.own,P1.dom,fun hp=>P1.pure (by cases p1 <;> simp_all)⟩
theorem Bk (h:tFT K p ds ds1 (cU c) σ H QT):Aj (tFT K p ds ds1 c) σ H QT:=by
 obtain ⟨Ox,en,R,b,en',e,hf,k⟩:=h
 unfold cU at hf
 obtain ⟨⟨b1,en1⟩,h1,hf⟩:=Option.map_eq_some_iff.mp hf
 cases hf
 exact ⟨Ox,en,R,b1,_,e,h1,fun H1 R1 P1=>k H1 R1 P1⟩
theorem Bn (hd:leD ds0 ds=true) (h:tFT K true ds ds c σ H QT):tFT K true ds0 ds0 c σ H QT:=by
 obtain ⟨Ox,en,R,t,en',e,hf,k⟩:=h
 obtain ⟨R1,s1,e1⟩:=e.cut (cj hd).1 (cj hd).2
 refine ⟨Ox,en,R1,t,en',e1,hf,fun H' R' P=>?_⟩
 obtain ⟨a1,a2,a3⟩:=P.pure rfl
 subst a1 a2
 exact k H' R (Post.new e a3 fun _ z=>z.elim)
end
end L2
namespace L2
open PySem PySem.Spec PyProof.Rows
abbrev Sh:=List (Nat ⊕ Nat)
def OwA (K:PySem.W.Frag) (O:AS) (H:Hp) (σ:St):List (D ⊕ Nat)→Sh→List V→AS→Prop
 | [],ds,vs,_=>ds=[]∧vs=[]
 | .inl t :: as,ds,vs,F=>∃ v r d dr,∃ F1 F2:AS,vs=v :: r∧ds=.inl d :: dr∧(∀ b,F1 b→F b)∧(∀ b,F2 b→F b)∧(∀ b,F1 b→¬ F2 b)∧Ow K O H t d v F1∧OwA K O H σ as dr r F2
 | .inr i :: as,ds,vs,F=>∃ v r dr,vs=v :: r∧ds=.inr i :: dr∧σ[i]?=some (some v)∧OwA K O H σ as dr r F
def tFA (K:PySem.W.Frag) (p:Bool) (ds ds':List Nat) (sh:Sh) (f:MA):TA:=fun σ H Q =>
 ∃ Ox en R as en',EnvOk K ds Ox H σ en R∧f en=some (as,en')∧∀ vs H' R' F,Post K p ds' Ox σ H en R en' H' R' F→OwA K (Own R' (U F Ox)) H' σ as sh vs F→Q vs H'
def aZ (fa:MA):ME:=fun en=>(fa en).bind fun r=>(be r.1).bind fun ts=>if ts.length≤sizeLine then some (.list ts,r.2) else none
def a5 (fa:MA):ME:=fun en=>(fa en).bind fun r=>(be r.1).bind fun ts=>if ts.length≤sizeLine then some (.tuple ts,r.2) else none
section
variable {K:PySem.W.Frag} {p p1 p2:Bool} {ds ds0 ds1 ds2 ds':List Nat} {Ox Ox' O O':AS} {H H':Hp} {σ:St} {en en' en1 en2:En} {R R':Nat→AS} {d d' d1 d2:Nat} {t t1 t2:D} {Q:VK} {f f1 f2:ME} {fa:MA} {sh:Sh} {QA:List V→Hp→Prop} {i:Nat}
theorem oJ (h:tFA K true ds ds [] ah σ H QA):jk σ H QA:=by
 obtain ⟨Ox,en,R,as,en',e,hf,k⟩:=h
 cases hf
 exact k [] H R NoA (Post.refl e) ⟨rfl,rfl⟩
theorem xN (h:tFA K (p1 && p2) ds ds2 (.inl d :: sh) (ad f fa) σ H QA):ix (tF K p1 ds ds1 d f) (tFA K p2 ds1 ds2 sh fa) σ H QA:=by
 obtain ⟨Ox,en,R,as,en',e,hf,k⟩:=h
 unfold ad at hf
 obtain ⟨⟨t1,en1⟩,h1,hf⟩:=Option.bind_eq_some_iff.mp hf
 obtain ⟨⟨as2,en2⟩,h2,hf⟩:=Option.map_eq_some_iff.mp hf
 cases hf
 refine ⟨Ox,en,R,t1,en1,e,h1,fun x H1 R1 F1 P1 o1=>?_⟩
 refine ⟨U F1 Ox,en1,R1,as2,en2,P1.env,h2,fun vs H2 R2 F2 P2 o2=>?_⟩
 refine k (x :: vs) H2 R2 (U F1 F2) (P1.trans P2) ⟨x,vs,d,sh,F1,F2,rfl,rfl,fun _=>.inl,fun _=>.inr,fun b z1 z2=>P2.fx b z2 (.inl z1),Ow.over P1.env P2 o1,?_⟩
 rw [← ja]
 exact o2
theorem xL (h:tFA K p ds ds2 (.inr i :: sh) (bx i fa) σ H QA):ix (fB i) (tFA K p ds ds2 sh fa) σ H QA:=by
 obtain ⟨Ox,en,R,as,en',e,hf,k⟩:=h
 unfold bx at hf
 obtain ⟨t0,h0,hf⟩:=Option.bind_eq_some_iff.mp hf
 obtain ⟨⟨as2,en2⟩,h2,hf⟩:=Option.map_eq_some_iff.mp hf
 cases hf
 have q:en[i]?=some (some t0):=by
  cases q:en[i]? with
  | none=>rw [q] at h0; cases h0
  | some o=>rw [q] at h0; exact congrArg some h0
 obtain ⟨v,d,h1,_⟩:=e.at_ i t0 q
 exact ⟨v,h1,Ox,en,R,as2,en2,e,h2,fun vs H2 R2 F2 P2 o2=>k (v :: vs) H2 R2 F2 P2 ⟨v,vs,sh,rfl,rfl,h1,o2⟩⟩
def bE (c:Nat):Sh→Bool
 | []=>true
 | .inl d :: r=>decide (c≤d) && bE c r
 | .inr _ :: _=>false
theorem OwA.ows:∀ {as:List (D ⊕ Nat)} {sh:Sh} {vs:List V} {F:AS} {ts:List D} {c:Nat},bE c sh=true→be as=some ts→OwA K O H σ as sh vs F →
  ∃ F':AS,(∀ b,F' b→F b)∧∀ O':AS,(∀ a,O' a→O a)→(∀ a,F a→O' a→F' a)→Ows K O' H ts c vs F'
 | [],_,_,F,ts,c,_,hv,h=>by
  cases hv
  exact ⟨F,fun _ z=>z,fun _ _ _=>h.2⟩
 | .inl t :: as,_,_,F,ts,c,hs,hv,h=>by
  obtain ⟨v,r,d,dr,F1,F2,e1,e2,s1,s2,s3,h1,h2⟩:=h
  subst e1 e2
  unfold be at hv
  obtain ⟨ts',hv',e⟩:=Option.map_eq_some_iff.mp hv
  subst e
  unfold bE at hs
  rw [Bool.and_eq_true] at hs
  obtain ⟨G1,a1,a2⟩:=Ow.cut t (of_decide_eq_true hs.1) h1
  obtain ⟨G2,b1,b2⟩:=OwA.ows hs.2 hv' h2
  refine ⟨fun b=>G1 b∨G2 b,fun b hb=>hb.elim (fun z=>s1 _ (a1 _ z)) fun z=>s2 _ (b1 _ z),fun O' ho hx=>⟨v,r,G1,G2,rfl,fun b=>.inl,fun b=>.inr,fun b z1 z2=>s3 b (a1 b z1) (b1 b z2),a2 O' ho fun b hb hz=>?_,b2 O' ho fun b hb hz=>?_⟩⟩
  ·exact (hx b (s1 b hb) hz).elim id fun z=>absurd (b1 b z) (s3 b hb)
  ·exact (hx b (s2 b hb) hz).elim (fun z=>absurd hb (s3 b (a1 b z))) id
 | .inr i :: as,_,_,F,ts,c,_,hv,_=>by cases hv
theorem OwA.len:∀ {as:List (D ⊕ Nat)} {sh:Sh} {vs:List V} {F:AS},OwA K O H σ as sh vs F→vs.length=as.length
 | [],_,_,_,h=>by rw [h.2]; rfl
 | .inl t :: as,_,_,_,h=>by
  obtain ⟨v,r,d,dr,F1,F2,e1,e2,s1,s2,s3,h1,h2⟩:=h
  rw [e1,List.length_cons,List.length_cons,h2.len]
 | .inr i :: as,_,_,_,h=>by
  obtain ⟨v,r,dr,e1,e2,e3,h2⟩:=h
  rw [e1,List.length_cons,List.length_cons,h2.len]
theorem hR:∀ {as:List (D ⊕ Nat)} {ts:List D},be as=some ts→ts.length=as.length
 | [],_,h=>by cases h; rfl
 | .inl t :: as,_,h=>by
  unfold be at h
  obtain ⟨ts',hv',e⟩:=Option.map_eq_some_iff.mp h
  subst e
  rw [List.length_cons,List.length_cons,hR hv']
 | .inr _ :: _,_,h=>by cases h
theorem oK {g:List D→Option D} (hs:bE 0 sh=true) (h:tF K p ds ds1 d (eN g fa) σ H Q):tCB (rFn K g d) (tFA K p ds ds1 sh fa) σ H Q:=by
 obtain ⟨Ox,en,R,t,en',e,hf,k⟩:=h
 unfold eN at hf
 obtain ⟨⟨as,en1⟩,h1,hf⟩:=Option.bind_eq_some_iff.mp hf
 obtain ⟨ts,h2,hf⟩:=Option.bind_eq_some_iff.mp hf
 obtain ⟨t',h3,hf⟩:=Option.map_eq_some_iff.mp hf
 cases hf
 refine ⟨Ox,en,R,as,en1,e,h1,fun vs H1 R1 F P o=>?_⟩
 obtain ⟨F',s1,s2⟩:=OwA.ows hs h2 o
 have o2:Ows K (Own R1 Ox) H1 ts 0 vs F':=s2 _ (fun a z=>z.imp id .inr) fun a z z2=>by
  rcases z2 with ⟨i,z2⟩ | z2
  ·exact absurd (.inl z) (P.env.dx i a z2)
  ·exact absurd z2 (P.fx a z)
 exact ⟨Own R1 Ox,ts,t,Ows.any0 ts o2,P.doms,h3,fun v2 H2 F2 n o2=>k v2 H2 R1 F2 (P.fin n) (jd ▸ o2)⟩
theorem Post.add {H1:Hp} {F G:AS} (P:Post K p ds' Ox σ H en R en' H1 R' F) (n:NewTo H1 H' G):Post K p ds' Ox σ H en R en' H' R' (U F G):=by
 have P2:Post K true ds' (U F Ox) σ H1 en' R' en' H' R' G:=Post.new P.env n.1 n.2
 have:=P.trans P2
 rw [Bool.and_true] at this
 exact this
theorem bu {l:Addr} {o:HO} (hl:H l=none):NewTo H (upd H l o) (fun b=>b=l):=by
 refine ⟨fun a u q=>?_,fun a z=>?_⟩
 ·rw [aP]
  ·exact q
  ·intro z
   subst z
   rw [hl] at q
   cases q
 ·subst z
  exact ⟨hl,_,aG⟩
theorem CL {c:Nat} (hs:bE c sh=true) (hd:dn d=c) (hz:d≠0) (h:tF K p ds ds1 d (aZ fa) σ H Q):Ak (tFA K p ds ds1 sh fa) σ H Q:=by
 obtain ⟨Ox,en,R,t,en',e,hf,k⟩:=h
 unfold aZ at hf
 obtain ⟨⟨as,en1⟩,h1,hf⟩:=Option.bind_eq_some_iff.mp hf
 obtain ⟨ts,h2,hf⟩:=Option.bind_eq_some_iff.mp hf
 by_cases hlen:ts.length≤sizeLine
 case neg=>rw [if_neg hlen] at hf; cases hf
 rw [if_pos hlen] at hf
 cases hf
 refine ⟨Ox,en,R,as,en1,e,h1,fun vs H1 R1 F P o=>⟨?_,fun l hl=>?_⟩⟩
 ·rw [o.len,← hR h2]; exact hlen
 obtain ⟨F',s1,s2⟩:=OwA.ows hs h2 o
 have o2:=s2 (Own R1 (U F' Ox)) (fun a z=>z.imp id fun z=>z.imp (s1 a) id) fun a z z2=>by
  rcases z2 with ⟨i,z2⟩ | z2 | z2
  ·exact absurd (.inl z) (P.env.dx i a z2)
  ·exact z2
  ·exact absurd z2 (P.fx a z)
 have P':=(P.less s1).add (bu (o:=.lst vs) hl)
 have nl:∀ a,F' a→a≠l:=fun a z z2=>by
  subst z2
  obtain ⟨o',q⟩:=P.env.dom a (.inr (.inl (s1 a z)))
  rw [hl] at q
  cases q
 refine k (.ref l) (upd H1 l (.lst vs)) R1 _ P' ⟨l,vs,rfl,.inr ⟨hz,aG,.inr rfl,F',fun b z=>⟨.inl z,nl b z⟩,?_⟩⟩
 rw [hd]
 refine Ows.mv (G:=F') ⟨fun a o q _=>(bu (o:=.lst vs) hl).1 a o q,fun a z=>?_⟩ ts (fun _ z=>z) o2
 rcases z with z | (z | z) | z
 ·exact .inl (.inl z)
 ·exact .inl (.inr (.inl z))
 ·exact .inr (by rw [show a=l from z]; exact hl)
 ·exact .inl (.inr (.inr z))
theorem CI {c:Nat} (hs:bE c sh=true) (hd:dn d=c) (h:tF K p ds ds1 d (a5 fa) σ H Q):Ag (tFA K p ds ds1 sh fa) σ H Q:=by
 obtain ⟨Ox,en,R,t,en',e,hf,k⟩:=h
 unfold a5 at hf
 obtain ⟨⟨as,en1⟩,h1,hf⟩:=Option.bind_eq_some_iff.mp hf
 obtain ⟨ts,h2,hf⟩:=Option.bind_eq_some_iff.mp hf
 by_cases hlen:ts.length≤sizeLine
 case neg=>rw [if_neg hlen] at hf; cases hf
 rw [if_pos hlen] at hf
 cases hf
 refine ⟨Ox,en,R,as,en1,e,h1,fun vs H1 R1 F P o=>⟨?_,fun l hl=>?_⟩⟩
 ·rw [o.len,← hR h2]; exact hlen
 obtain ⟨F',s1,s2⟩:=OwA.ows hs h2 o
 have o2:=s2 (Own R1 (U F' Ox)) (fun a z=>z.imp id fun z=>z.imp (s1 a) id) fun a z z2=>by
  rcases z2 with ⟨i,z2⟩ | z2 | z2
  ·exact absurd (.inl z) (P.env.dx i a z2)
  ·exact z2
  ·exact absurd z2 (P.fx a z)
 have nl:∀ a,Own R1 (U F' Ox) a→a≠l:=fun a z z2=>by
  subst z2
  obtain ⟨o',q⟩:=P.env.dom a (z.imp id fun z=>z.imp (s1 a) id)
  rw [hl] at q
  cases q
 by_cases hz:d=0
 ·subst hz
  have P':=(P.less s1).add (G:=NoA) (H':=upd H1 l (.tup vs)) ⟨(bu (o:=.tup vs) hl).1,fun _ z=>z.elim⟩
  have eq:U F' NoA=F':=di fun a=>⟨fun z=>z.elim id fun z=>z.elim,.inl⟩
  rw [eq] at P'
  refine k (.ref l) (upd H1 l (.tup vs)) R1 _ P' ⟨l,vs,rfl,.inl ⟨rfl,⟨aG,fun z=>nl l z rfl⟩,?_⟩⟩
  have hc:c=0:=hd.symm
  subst hc
  exact Ows.mv (G:=F') ⟨fun a o q _=>(bu (o:=.tup vs) hl).1 a o q,fun a z=>.inl z⟩ ts (fun _ z=>z) o2
 ·have P':=(P.less s1).add (bu (o:=.tup vs) hl)
  refine k (.ref l) (upd H1 l (.tup vs)) R1 _ P' ⟨l,vs,rfl,.inr ⟨hz,aG,.inr rfl,F',fun b z=>⟨.inl z,nl b (.inr (.inl z))⟩,?_⟩⟩
  rw [hd]
  refine Ows.mv (G:=F') ⟨fun a o q _=>(bu (o:=.tup vs) hl).1 a o q,fun a z=>?_⟩ ts (fun _ z=>z) o2
  rcases z with z | (z | z) | z
  ·exact .inl (.inl z)
  ·exact .inl (.inr (.inl z))
  ·exact .inr (by rw [show a=l from z]; exact hl)
  ·exact .inl (.inr (.inr z))
end
def spF (K:PySem.W.Frag) (dps:List Nat) (dr:Nat) (F:List D→Option (D × En)):Sp:=fun vs H Q _ =>
 ∃ Ox ts R r outs,EnvOk K dps Ox H (vs.map some) (ts.map some) R∧F ts=some (r,outs) ∧
  ∀ v H' R' Fr,Post K false dps Ox (vs.map some) H (ts.map some) R outs H' R' Fr→Ow K (Own R' (U Fr Ox)) H' r dr v Fr→Q v H'
def cV:List (D ⊕ Nat)→En→Option (List D)
 | [],_=>some []
 | .inl t :: r,en=>(cV r en).map (t :: ·)
 | .inr i :: r,en=>(en[i]?).join.bind fun t=>(cV r en).map (t :: ·)
def wb:List (D ⊕ Nat)→En→En→En
 | .inr i :: r,o :: outs,en=>wb r outs (en.set i o)
 | .inl _ :: r,_ :: outs,en=>wb r outs en
 | _,_,en=>en
def aO (F:List D→Option (D × En)) (fa:MA):ME:=fun en=>(fa en).bind fun r=>(cV r.1 r.2).bind fun ts=>(F ts).map fun q=>(q.1,wb r.1 q.2 r.2)
def e8:Sh→List Nat
 | []=>[]
 | .inl _ :: r=>e8 r
 | .inr i :: r=>i :: e8 r
def dh (ds:List Nat):Sh→List Nat→Bool
 | [],[]=>true
 | .inl d :: r,q :: s=>decide (d=q) && dh ds r s
 | .inr i :: r,q :: s=>decide (ds[i]?=some q) && (decide (i ∉ e8 r) && dh ds r s)
 | _,_=>false
def e9:Sh→Bool
 | []=>true
 | .inl _ :: r=>e9 r
 | .inr _ :: _=>false
section
variable {K:PySem.W.Frag} {p p1 p2:Bool} {ds ds0 ds1 ds2 ds' dps:List Nat} {Ox Ox' O O':AS} {H H':Hp} {σ:St} {en en' en1 en2:En} {R R':Nat→AS} {d d' d1 d2 dr:Nat} {t t1 t2:D} {Q:VK} {f f1 f2:ME} {fa:MA} {sh:Sh} {QA:List V→Hp→Prop} {i:Nat}
theorem OwA.parts:∀ {as:List (D ⊕ Nat)} {sh:Sh} {vs:List V} {F:AS},OwA K O H σ as sh vs F →
  ∃ Rp:Nat→AS,(∀ (j:Nat) t,as[j]?=some (.inl t)→∃ v d,vs[j]?=some v∧sh[j]?=some (.inl d)∧Ow K O H t d v (Rp j))∧(∀ (j i:Nat),as[j]?=some (.inr i)→∃ v,vs[j]?=some v∧sh[j]?=some (.inr i)∧σ[i]?=some (some v)) ∧
   (∀ j a,Rp j a→F a)∧(∀ j j' a,Rp j a→Rp j' a→j=j')
 | [],sh,vs,F,h=>⟨fun _=>NoA,fun j t z=>by simp at z,fun j i z=>by simp at z,fun _ _ z=>z.elim,fun _ _ _ z=>z.elim⟩
 | .inl t :: as,sh,vs,F,h=>by
  obtain ⟨v,r,d,dr,F1,F2,e1,e2,s1,s2,s3,h1,h2⟩:=h
  subst e1 e2
  obtain ⟨Rp,a1,a2,a3,a4⟩:=h2.parts
  refine ⟨fun j=>match j with | 0=>F1 | j+1=>Rp j,fun j u hj=>?_,fun j i hj=>?_,fun j a z=>?_,fun j j' a z z'=>?_⟩
  ·cases j with
   | zero =>
    have:t=u:=by simpa using hj
    subst this
    exact ⟨v,d,rfl,rfl,h1⟩
   | succ j=>exact a1 j u (by simpa using hj)
  ·cases j with
   | zero=>simp at hj
   | succ j=>exact a2 j i (by simpa using hj)
  ·cases j with
   | zero=>exact s1 a z
   | succ j=>exact s2 a (a3 j a z)
  ·cases j with
   | zero =>
    cases j' with
    | zero=>rfl
    | succ j'=>exact absurd (a3 j' a z') (s3 a z)
   | succ j =>
    cases j' with
    | zero=>exact absurd (a3 j a z) (s3 a z')
    | succ j'=>rw [a4 j j' a z z']
 | .inr i :: as,sh,vs,F,h=>by
  obtain ⟨v,r,dr,e1,e2,e3,h2⟩:=h
  subst e1 e2
  obtain ⟨Rp,a1,a2,a3,a4⟩:=h2.parts
  refine ⟨fun j=>match j with | 0=>NoA | j+1=>Rp j,fun j u hj=>?_,fun j i' hj=>?_,fun j a z=>?_,fun j j' a z z'=>?_⟩
  ·cases j with
   | zero=>simp at hj
   | succ j=>exact a1 j u (by simpa using hj)
  ·cases j with
   | zero =>
    have:i=i':=by simpa using hj
    subst this
    exact ⟨v,rfl,rfl,e3⟩
   | succ j=>exact a2 j i' (by simpa using hj)
  ·cases j with
   | zero=>exact z.elim
   | succ j=>exact a3 j a z
  ·cases j with
   | zero=>exact z.elim
   | succ j =>
    cases j' with
    | zero=>exact z'.elim
    | succ j'=>rw [a4 j j' a z z']
theorem ij:∀ {as:List (D ⊕ Nat)} {en:En} {ts:List D},cV as en=some ts→ts.length=as.length∧∀ (j:Nat) t,ts[j]?=some t→as[j]?=some (.inl t)∨∃ i,as[j]?=some (.inr i)∧en[i]?=some (some t)
 | [],_,_,h=>by cases h; exact ⟨rfl,fun j t z=>by simp at z⟩
 | .inl t :: as,en,_,h=>by
  unfold cV at h
  obtain ⟨ts',h',e⟩:=Option.map_eq_some_iff.mp h
  subst e
  obtain ⟨l,g⟩:=ij h'
  refine ⟨by rw [List.length_cons,List.length_cons,l],fun j u z=>?_⟩
  cases j with
  | zero=>simp at z; subst z; exact .inl rfl
  | succ j=>exact g j u (by simpa using z)
 | .inr i :: as,en,_,h=>by
  unfold cV at h
  obtain ⟨t,ht,h⟩:=Option.bind_eq_some_iff.mp h
  obtain ⟨ts',h',e⟩:=Option.map_eq_some_iff.mp h
  subst e
  obtain ⟨l,g⟩:=ij h'
  refine ⟨by rw [List.length_cons,List.length_cons,l],fun j u z=>?_⟩
  cases j with
  | zero =>
   simp at z
   subst z
   refine .inr ⟨i,rfl,?_⟩
   cases q:en[i]? with
   | none=>rw [q] at ht; cases ht
   | some o=>rw [q] at ht; exact congrArg some ht
  | succ j=>exact g j u (by simpa using z)
theorem gp:∀ {sh:Sh} {dps:List Nat},dh ds sh dps=true→sh.length=dps.length∧(∀ (j d:Nat),sh[j]?=some (.inl d)→dps[j]?=some d)∧(∀ (j i:Nat),sh[j]?=some (.inr i)→∃ q,dps[j]?=some q∧ds[i]?=some q) ∧
   (∀ (j j' i:Nat),sh[j]?=some (.inr i)→sh[j']?=some (.inr i)→j=j')
 | [],[],_=>⟨rfl,fun j d z=>by simp at z,fun j d z=>by simp at z,fun j j' d z=>by simp at z⟩
 | .inl d :: r,q :: s,h=>by
  unfold dh at h
  rw [Bool.and_eq_true] at h
  obtain ⟨h1,h2⟩:=h
  have h1':=of_decide_eq_true h1
  subst h1'
  obtain ⟨l,a,b,c⟩:=gp h2
  refine ⟨by rw [List.length_cons,List.length_cons,l],fun j u z=>?_,fun j i z=>?_,fun j j' i z z'=>?_⟩
  ·cases j with
   | zero=>simp at z; subst z; rfl
   | succ j=>exact a j u (by simpa using z)
  ·cases j with
   | zero=>simp at z
   | succ j=>exact b j i (by simpa using z)
  ·cases j with
   | zero=>simp at z
   | succ j =>
    cases j' with
    | zero=>simp at z'
    | succ j'=>rw [c j j' i (by simpa using z) (by simpa using z')]
 | .inr i0 :: r,q :: s,h=>by
  unfold dh at h
  rw [Bool.and_eq_true,Bool.and_eq_true] at h
  obtain ⟨h1,h2,h3⟩:=h
  have h1':=of_decide_eq_true h1
  have h2':=of_decide_eq_true h2
  obtain ⟨l,a,b,c⟩:=gp h3
  have mem:∀ {r:Sh} {j i:Nat},r[j]?=some (.inr i)→i∈e8 r:=fun {r}=>by
   induction r with
   | nil=>intro j i z; simp at z
   | cons x r ih =>
    intro j i z
    cases j with
    | zero =>
     simp at z
     subst z
     unfold e8
     exact List.mem_cons_self
    | succ j =>
     have:=ih (j:=j) (i:=i) (by simpa using z)
     cases x with
     | inl _=>exact this
     | inr _=>exact List.mem_cons_of_mem _ this
  refine ⟨by rw [List.length_cons,List.length_cons,l],fun j u z=>?_,fun j i z=>?_,fun j j' i z z'=>?_⟩
  ·cases j with
   | zero=>simp at z
   | succ j=>exact a j u (by simpa using z)
  ·cases j with
   | zero=>simp at z; subst z; exact ⟨q,rfl,h1'⟩
   | succ j=>exact b j i (by simpa using z)
  ·cases j with
   | zero =>
    simp at z
    subst z
    cases j' with
    | zero=>rfl
    | succ j'=>exact absurd (mem (by simpa using z')) h2'
   | succ j =>
    cases j' with
    | zero =>
     simp at z'
     subst z'
     exact absurd (mem (by simpa using z)) h2'
    | succ j'=>rw [c j j' i (by simpa using z) (by simpa using z')]
 | [],_ :: _,h=>nomatch h
 | .inl _ :: _,[],h=>nomatch h
 | .inr _ :: _,[],h=>nomatch h
theorem kc:∀ (as:List (D ⊕ Nat)) (outs en:En),(wb as outs en).length=en.length
 | [],_,_=>by unfold wb; rfl
 | .inl _ :: as,[],_=>by unfold wb; rfl
 | .inr _ :: as,[],_=>by unfold wb; rfl
 | .inl _ :: as,o :: outs,en=>by unfold wb; exact kc as outs en
 | .inr i :: as,o :: outs,en=>by unfold wb; rw [kc as outs _,List.length_set]
theorem ga:∀ (as:List (D ⊕ Nat)) (outs en:En) (i:Nat),(∀ j:Nat,as[j]?≠some (.inr i))→(wb as outs en)[i]?=en[i]?
 | [],_,_,_,_=>by unfold wb; rfl
 | .inl _ :: as,[],_,_,_=>by unfold wb; rfl
 | .inr _ :: as,[],_,_,_=>by unfold wb; rfl
 | .inl _ :: as,o :: outs,en,i,h=>by unfold wb; exact ga as outs en i fun j=>h (j+1)
 | .inr k :: as,o :: outs,en,i,h=>by
  unfold wb
  rw [ga as outs _ i fun j=>h (j+1),List.getElem?_set_ne]
  intro e
  subst e
  exact h 0 rfl
theorem mj:∀ (as:List (D ⊕ Nat)) (outs en:En) (i j:Nat),as[j]?=some (.inr i)→(∀ j':Nat,as[j']?=some (.inr i)→j'=j)→outs.length=as.length→i < en.length→(wb as outs en)[i]?=outs[j]?
 | [],_,_,_,_,h,_,_,_=>by simp at h
 | .inl _ :: as,[],_,_,_,_,_,h,_=>by simp at h
 | .inr _ :: as,[],_,_,_,_,_,h,_=>by simp at h
 | .inl _ :: as,o :: outs,en,i,j,h,u,l,b=>by
  unfold wb
  cases j with
  | zero=>simp at h
  | succ j=>exact mj as outs en i j (by simpa using h) (fun j' z=>by have:=u (j'+1) (by simpa using z); omega) (by simpa using l) b
 | .inr k :: as,o :: outs,en,i,j,h,u,l,b=>by
  unfold wb
  cases j with
  | zero =>
   have e:k=i:=by simpa using h
   subst e
   rw [ga as outs _ k fun j' z=>by have:=u (j'+1) (by simpa using z); omega]
   rw [List.getElem?_set_self b]
   rfl
  | succ j=>exact mj as outs _ i j (by simpa using h) (fun j' z=>by have:=u (j'+1) (by simpa using z); omega) (by simpa using l) (by rw [List.length_set]; exact b)
end
end L2
namespace L2
open PySem PySem.Spec PyProof.Rows
section
variable {K:PySem.W.Frag} {p p1 p2:Bool} {ds ds0 ds1 ds2 ds' dps:List Nat} {Ox Ox' O O':AS} {H H':Hp} {σ:St} {en en' en1 en2:En} {R R':Nat→AS} {d d' d1 d2 dr:Nat} {t t1 t2:D} {Q:VK} {f f1 f2:ME} {fa:MA} {sh:Sh} {QA:List V→Hp→Prop} {i:Nat}
theorem OwA.shl:∀ {as:List (D ⊕ Nat)} {sh:Sh} {vs:List V} {F:AS},OwA K O H σ as sh vs F→sh.length=as.length
 | [],_,_,_,h=>by rw [h.1]; rfl
 | .inl t :: as,_,_,_,h=>by
  obtain ⟨v,r,d,dr,F1,F2,e1,e2,s1,s2,s3,h1,h2⟩:=h
  rw [e2,List.length_cons,List.length_cons,h2.shl]
 | .inr i :: as,_,_,_,h=>by
  obtain ⟨v,r,dr,e1,e2,e3,h2⟩:=h
  rw [e2,List.length_cons,List.length_cons,h2.shl]
theorem iE:∀ {sh:Sh},e9 sh=true→∀ (j i:Nat),sh[j]?≠some (.inr i)
 | [],_,j,i,z=>by simp at z
 | .inl _ :: r,h,j,i,z=>by
  cases j with
  | zero=>simp at z
  | succ j=>exact iE (sh:=r) h j i (by simpa using z)
 | .inr _ :: r,h,_,_,_=>nomatch h
theorem qk {E:XK} {F:List D→Option (D × En)} (hc:dh ds1 sh dps=true) (h:tF K (p && e9 sh) ds ds1 dr (aO F fa) σ H Q):iy (spF K dps dr F) [] E (tFA K p ds ds1 sh fa) σ H Q:=by
 obtain ⟨Ox,en,R,t,en',e,hf,k⟩:=h
 unfold aO at hf
 obtain ⟨⟨as,en1⟩,h1,hf⟩:=Option.bind_eq_some_iff.mp hf
 obtain ⟨ts,h2,hf⟩:=Option.bind_eq_some_iff.mp hf
 obtain ⟨⟨r,outs⟩,h3,hf⟩:=Option.map_eq_some_iff.mp hf
 cases hf
 refine ⟨Ox,en,R,as,en1,e,h1,fun vs H1 R1 F0 P o=>?_⟩
 obtain ⟨cl,c1,c2,c3⟩:=gp hc
 obtain ⟨Rp,a1,a2,a3,a4⟩:=o.parts
 obtain ⟨tl,tg⟩:=ij h2
 have ol:=o.len
 have asl:∀ (j i:Nat),as[j]?=some (.inr i)→sh[j]?=some (.inr i):=fun j i z=>(a2 j i z).choose_spec.2.1
 have asr:∀ (j i:Nat),sh[j]?=some (.inr i)→as[j]?=some (.inr i):=fun j i z=>by
  cases q:as[j]? with
  | none =>
   have e1:as.length≤j:=List.getElem?_eq_none_iff.mp q
   have e2:j < sh.length:=(List.getElem?_eq_some_iff.mp z).1
   have:=o.shl
   omega
  | some x =>
   cases x with
   | inl t =>
    obtain ⟨_,_,_,e2,_⟩:=a1 j t q
    rw [z] at e2; cases e2
   | inr i' =>
    have:=asl j i' q
    rw [z] at this
    cases this
    rfl
 let Rq:Nat→AS:=fun j=>match sh[j]? with | some (.inr i)=>R1 i | _=>Rp j
 have rq1:∀ j i:Nat,sh[j]?=some (.inr i)→Rq j=R1 i:=fun j i z=>by show (match sh[j]? with | some (.inr i)=>R1 i | _=>Rp j)=R1 i; rw [z]
 have rq2:∀ j:Nat,(∀ i:Nat,sh[j]?≠some (.inr i))→Rq j=Rp j:=fun j z=>by
  show (match sh[j]? with | some (.inr i)=>R1 i | _=>Rp j)=Rp j
  split
  ·next i q=>exact absurd q (z i)
  ·rfl
 have rqc:∀ (j:Nat) a,Rq j a→(∃ i,sh[j]?=some (.inr i)∧R1 i a)∨Rp j a:=fun j a z=>by
  by_cases q:∃ i,sh[j]?=some (.inr i)
  ·obtain ⟨i,q⟩:=q
   rw [rq1 j i q] at z
   exact .inl ⟨i,q,z⟩
  ·rw [rq2 j fun i z=>q ⟨i,z⟩] at z
   exact .inr z
 let Oxp:AS:=fun a=>Ox a∨∃ i,R1 i a∧∀ j:Nat,sh[j]?≠some (.inr i)
 have sub:∀ a,Own Rq Oxp a→Own R1 (U F0 Ox) a:=fun a z=>by
  rcases z with ⟨j,z⟩ | z | ⟨i,z,_⟩
  ·rcases rqc j a z with ⟨i,_,z⟩ | z
   ·exact .inl ⟨i,z⟩
   ·exact .inr (.inl (a3 j a z))
  ·exact .inr (.inr z)
  ·exact .inl ⟨i,z⟩
 have ec:EnvOk K dps Oxp H1 (vs.map some) (ts.map some) Rq:=by
  refine ⟨fun j u hu=>?_,fun j j' a z z'=>?_,fun j a z z2=>?_,fun a z=>P.env.dom a (sub a z),by rw [List.length_map,List.length_map,tl,ol],?_⟩
  ·rw [List.getElem?_map] at hu
   obtain ⟨u',hu,eu⟩:=Option.map_eq_some_iff.mp hu
   cases eu
   rcases tg j u hu with q | ⟨i,q,qe⟩
   ·obtain ⟨v,d,b1,b2,b3⟩:=a1 j u q
    refine ⟨v,d,by rw [List.getElem?_map,b1]; rfl,c1 j d b2,?_⟩
    rw [rq2 j fun i z=>by rw [b2] at z; cases z]
    exact Ow.grow sub u (fun _ z=>z) b3
   ·obtain ⟨v,b1,b2,b3⟩:=a2 j i q
    obtain ⟨v',d,g1,g2,g3⟩:=P.env.at_ i u qe
    rw [b3] at g1
    cases g1
    obtain ⟨qd,q1,q2⟩:=c2 j i b2
    rw [g2] at q2
    cases q2
    refine ⟨v,d,by rw [List.getElem?_map,b1]; rfl,q1,?_⟩
    rw [rq1 j i b2]
    exact Ow.grow sub u (fun _ z=>z) g3
  ·rcases rqc j a z with ⟨i,q,z⟩ | z <;> rcases rqc j' a z' with ⟨i',q',z'⟩ | z'
   ·have:=P.env.dj i i' a z z'
    subst this
    exact c3 j j' i q q'
   ·exact absurd (.inl (a3 j' a z')) (P.env.dx i a z)
   ·exact absurd (.inl (a3 j a z)) (P.env.dx i' a z')
   ·exact a4 j j' a z z'
  ·rcases rqc j a z with ⟨i,q,z⟩ | z
   ·rcases z2 with z2 | ⟨i',z2,n⟩
    ·exact P.env.dx i a z (.inr z2)
    ·have:=P.env.dj i i' a z z2
     subst this
     exact n j q
   ·rcases z2 with z2 | ⟨i',z2,n⟩
    ·exact P.fx a (a3 j a z) z2
    ·exact P.env.dx i' a z2 (.inl (a3 j a z))
  ·have:=o.shl
   rw [List.length_map]
   omega
 rw [List.append_nil]
 refine ⟨Oxp,ts,Rq,r,outs,ec,h3,fun v H2 R2 Fr Pc oc=>?_⟩
 have outl:outs.length=as.length:=by rw [Pc.env.l1,List.length_map]; exact ol
 classical
 let R3:Nat→AS:=fun i=>if q:∃ j:Nat,sh[j]?=some (.inr i) then R2 q.choose else R1 i
 have r31:∀ (i j:Nat),sh[j]?=some (.inr i)→R3 i=R2 j:=fun i j z=>by
  have q:∃ j:Nat,sh[j]?=some (.inr i):=⟨j,z⟩
  have:q.choose=j:=c3 _ _ i q.choose_spec z
  show (if q:∃ j:Nat,sh[j]?=some (.inr i) then R2 q.choose else R1 i)=R2 j
  rw [dif_pos q,this]
 have r32:∀ i:Nat,(∀ j:Nat,sh[j]?≠some (.inr i))→R3 i=R1 i:=fun i z=>by
  show (if q:∃ j:Nat,sh[j]?=some (.inr i) then R2 q.choose else R1 i)=R1 i
  rw [dif_neg fun ⟨j,q⟩=>z j q]
 have r3c:∀ (i:Nat) a,R3 i a→(∃ j:Nat,sh[j]?=some (.inr i)∧R2 j a)∨((∀ j:Nat,sh[j]?≠some (.inr i))∧R1 i a):=fun i a z=>by
  by_cases q:∃ j:Nat,sh[j]?=some (.inr i)
  ·obtain ⟨j,q⟩:=q
   rw [r31 i j q] at z
   exact .inl ⟨j,q,z⟩
  ·rw [r32 i fun j z=>q ⟨j,z⟩] at z
   exact .inr ⟨fun j z=>q ⟨j,z⟩,z⟩
 have sub3:∀ a,Own R3 (U Fr Ox) a→Own R2 (U Fr Oxp) a:=fun a z=>by
  rcases z with ⟨i,z⟩ | z | z
  ·rcases r3c i a z with ⟨j,_,z⟩ | ⟨n,z⟩
   ·exact .inl ⟨j,z⟩
   ·exact .inr (.inr (.inr ⟨i,z,n⟩))
  ·exact .inr (.inl z)
  ·exact .inr (.inr (.inl z))
 have back:∀ a,(Fr a∨∃ j,R2 j a)→Own R1 (U F0 Ox) a∨H1 a=none:=fun a z=>by
  rcases Pc.own a z with ⟨j,z⟩ | z
  ·exact .inl (sub a (.inl ⟨j,z⟩))
  ·exact .inr z
 have back2:∀ a,(Fr a∨∃ j,R2 j a)→(F0 a∨∃ i,R1 i a)∨H1 a=none:=fun a z=>by
  rcases Pc.own a z with ⟨j,z⟩ | z
  ·rcases rqc j a z with ⟨i,_,z⟩ | z
   ·exact .inl (.inr ⟨i,z⟩)
   ·exact .inl (.inl (a3 j a z))
  ·exact .inr z
 have n1:∀ a,H1 a=none→H a=none:=fun a z=>by
  cases q:H a with
  | none=>rfl
  | some o =>
   obtain ⟨o',q'⟩:=P.dom a o q
   rw [z] at q'
   cases q'
 have rqsub:∀ j a,Rq j a→Own R1 (U F0 Ox) a:=fun j a z=>sub a (.inl ⟨j,z⟩)
 have env3:EnvOk K ds1 (U Fr Ox) H2 σ (wb as outs en1) R3:=by
  refine ⟨fun i u hu=>?_,fun i i' a z z'=>?_,fun i a z z2=>?_,fun a z=>Pc.env.dom a (sub3 a z),by rw [kc]; exact P.env.l1,P.env.l2⟩
  ·by_cases q:∃ j:Nat,as[j]?=some (.inr i)
   ·obtain ⟨j,q⟩:=q
    obtain ⟨v,b1,b2,b3⟩:=a2 j i q
    have hil:i < en1.length:=by rw [P.env.l1]; exact (List.getElem?_eq_some_iff.mp b3).1
    rw [mj as outs en1 i j q (fun j' z=>c3 j' j i (asl j' i z) b2) outl hil] at hu
    obtain ⟨v',d,g1,g2,g3⟩:=Pc.env.at_ j u hu
    rw [List.getElem?_map,b1] at g1
    cases g1
    obtain ⟨qd,q1,q2⟩:=c2 j i b2
    rw [g2] at q1
    cases q1
    refine ⟨v,d,b3,q2,?_⟩
    rw [r31 i j b2]
    exact Ow.grow sub3 u (fun _ z=>z) g3
   ·rw [ga as outs en1 i fun j z=>q ⟨j,z⟩] at hu
    have ns:∀ j:Nat,sh[j]?≠some (.inr i):=fun j z=>q ⟨j,asr j i z⟩
    obtain ⟨v,d,g1,g2,g3⟩:=P.env.at_ i u hu
    refine ⟨v,d,g1,g2,?_⟩
    rw [r32 i ns]
    refine Ow.mv (G:=R1 i) ⟨fun a o q z=>Pc.keep a o q fun j zj=>?_,fun a z=>?_⟩ u (fun _ z=>z) g3
    ·rcases z with z | z
     ·exact z (rqsub j a zj)
     ·rcases rqc j a zj with ⟨i',q',z'⟩ | z'
      ·have:=P.env.dj i i' a z z'
       subst this
       exact ns j q'
      ·exact P.env.dx i a z (.inl (a3 j a z'))
    ·rcases z with ⟨i',z⟩ | z | z
     ·rcases r3c i' a z with ⟨j,_,z⟩ | ⟨n,z⟩
      ·exact back a (.inr ⟨j,z⟩)
      ·exact .inl (.inl ⟨i',z⟩)
     ·exact back a (.inl z)
     ·exact .inl (.inr (.inr z))
  ·rcases r3c i a z with ⟨j,q,z⟩ | ⟨n,z⟩ <;> rcases r3c i' a z' with ⟨j',q',z'⟩ | ⟨n',z'⟩
   ·have:=Pc.env.dj j j' a z z'
    subst this
    rw [q] at q'
    cases q'
    rfl
   ·exact absurd (.inr (.inr ⟨i',z',n'⟩)) (Pc.env.dx j a z)
   ·exact absurd (.inr (.inr ⟨i,z,n⟩)) (Pc.env.dx j' a z')
   ·exact P.env.dj i i' a z z'
  ·rcases r3c i a z with ⟨j,q,z⟩ | ⟨n,z⟩
   ·exact Pc.env.dx j a z (z2.imp id .inl)
   ·rcases z2 with z2 | z2
    ·exact Pc.fx a z2 (.inr ⟨i,z,n⟩)
    ·exact P.env.dx i a z (.inr z2)
 refine k v H2 R3 Fr ⟨env3,fun a z z2=>Pc.fx a z (.inl z2),fun a o q n=>?_,fun a z=>?_,fun a o q=>?_,fun hp=>?_⟩ (Ow.grow sub3 r (fun _ z=>z) oc)
 ·refine Pc.keep a o (P.keep a o q n) fun j z=>?_
  have nn:∀ i,¬ R1 i a:=fun i z=>by
   rcases P.own a (.inr ⟨i,z⟩) with ⟨i',z⟩ | z
   ·exact n i' z
   ·rw [q] at z; cases z
  rcases rqc j a z with ⟨i,_,z⟩ | z
  ·exact nn i z
  ·rcases P.own a (.inl (a3 j a z)) with ⟨i',z⟩ | z
   ·exact n i' z
   ·rw [q] at z; cases z
 ·have:(F0 a∨∃ i,R1 i a)∨H1 a=none:=by
   rcases z with z | ⟨i,z⟩
   ·exact back2 a (.inl z)
   ·rcases r3c i a z with ⟨j,_,z⟩ | ⟨n,z⟩
    ·exact back2 a (.inr ⟨j,z⟩)
    ·exact .inl (.inr ⟨i,z⟩)
  rcases this with z | z
  ·exact P.own a z
  ·exact .inr (n1 a z)
 ·obtain ⟨o',q'⟩:=P.dom a o q
  exact Pc.dom a o' q'
 ·obtain ⟨hp1,hp2⟩:=(Bool.and_eq_true _ _ ▸ hp:p=true∧e9 sh=true)
  obtain ⟨b1,b2,b3⟩:=P.pure hp1
  have ns:=iE hp2
  refine ⟨?_,?_,fun a o q=>?_⟩
  ·show wb as outs en1=en
   rw [← b1]
   refine List.ext_getElem? fun i=>?_
   exact ga as outs en1 i fun j z=>ns j i (asl j i z)
  ·rw [← b2]
   funext i
   exact r32 i fun j=>ns j i
  ·refine Pc.keep a o (b3 a o q) fun j z=>?_
   rcases rqc j a z with ⟨i,z,_⟩ | z
   ·exact ns j i z
   ·have zf:=a3 j a z
    rcases P.own a (.inl zf) with ⟨i,z2⟩ | z2
    ·rw [← b2] at z2
     exact P.env.dx i a z2 (.inl zf)
    ·rw [q] at z2; cases z2
end
end L2
namespace L2
open PySem PySem.Spec PyProof.Rows
inductive Fl where
 | nx (en:En) | rt (t:D) (en:En) | ct (en:En)
abbrev MS:=En→Option Fl
structure Jd where
 lk:List Nat
 dsr:List Nat
 dr:Nat
 dsl:List Nat
structure PostS (K:PySem.W.Frag) (lk:List Nat) (ds':List Nat) (Ox:AS) (σ:St) (H:Hp) (R:Nat→AS) (σ':St) (en':En) (H':Hp) (R':Nat→AS) (F:AS):Prop where
 env:EnvOk K ds' (U F Ox) H' σ' en' R'
 fx:∀ a,F a→¬ Ox a
 keep:∀ a o,H a=some o→(∀ i,¬ R i a)→H' a=some o
 own:∀ a,(F a∨∃ i,R' i a)→(∃ i,R i a)∨H a=none
 dom:∀ a o,H a=some o→∃ o',H' a=some o'
 lk:∀ j∈lk,σ'[j]?=σ[j]?
def tFS (K:PySem.W.Frag) (J:Jd) (ds ds':List Nat) (f:MS):TS:=fun D σ H =>
 ∃ Ox en R fl,EnvOk K ds Ox H σ en R∧f en=some fl∧match fl with
  | .nx en'=>∀ σ' H' R',PostS K J.lk ds' Ox σ H R σ' en' H' R' NoA→D.nx σ' H'
  | .ct en'=>∀ σ' H' R',PostS K J.lk J.dsl Ox σ H R σ' en' H' R' NoA→D.ct σ' H'
  | .rt t en'=>∀ v σ' H' R' F,PostS K J.lk J.dsr Ox σ H R σ' en' H' R' F→Ow K (Own R' (U F Ox)) H' t J.dr v F→D.rt v H'
def au (f g:MS):MS:=fun en=>(f en).bind fun fl=>match fl with
 | .nx en1=>g en1
 | .rt t en1=>some (.rt t en1)
 | .ct en1=>some (.ct en1)
def aC (i:Nat) (f:ME):MS:=fun en=>(f en).map fun r=>.nx (r.2.set i (some r.1))
def jl (f:ME):MS:=fun en=>(f en).map fun r=>.nx r.2
def aR (f:ME):MS:=fun en=>(f en).map fun r=>.rt r.1 r.2
def Dx:MS:=fun en=>some (.rt .none en)
def bQ:MS:=fun en=>some (.nx en)
def Dy:MS:=fun en=>some (.ct en)
def Dq:MS:=fun _=>none
def sIf (c:MT) (f g:MS):MS:=fun en=>(c en).bind fun r=>if r.1 then f r.2 else g r.2
section
variable {K:PySem.W.Frag} {p p1 p2:Bool} {J:Jd} {lk:List Nat} {ds ds0 ds1 ds2 ds':List Nat} {Ox Ox' O O':AS} {H H':Hp} {σ σ':St} {en en' en1 en2:En} {R R':Nat→AS} {d d' d1 d2 dr:Nat} {t t1 t2:D} {f f1 f2:ME} {c:MT} {m m1 m2:MS} {i:Nat} {D:Ends}
theorem PostS.refl (e:EnvOk K ds Ox H σ en R):PostS K lk ds Ox σ H R σ en H R NoA :=
 ⟨by rw [cW]; exact e,fun _ z=>z.elim,fun _ _ q _=>q,fun a z=>z.elim (fun z=>z.elim) .inl,fun a o q=>⟨o,q⟩,fun _ _=>rfl⟩
theorem PostS.env0 {F:AS} (P:PostS K lk ds' Ox σ H R σ' en' H' R' F):EnvOk K ds' Ox H' σ' en' R':=P.env.fewer fun a z=>.inr z
theorem PostS.less {F F':AS} (P:PostS K lk ds' Ox σ H R σ' en' H' R' F) (h:∀ a,F' a→F a):PostS K lk ds' Ox σ H R σ' en' H' R' F' :=
 ⟨P.env.fewer fun a z=>z.imp (h a) id,fun a z=>P.fx a (h a z),P.keep,fun a z=>P.own a (z.imp (h a) id),P.dom,P.lk⟩
theorem PostS.after {σ1 σ2:St} {H1:Hp} {R1 R2:Nat→AS} {F:AS} (P1:PostS K lk ds1 Ox σ H R σ1 en1 H1 R1 NoA) (P2:PostS K lk ds2 Ox σ1 H1 R1 σ2 en2 H' R2 F):PostS K lk ds2 Ox σ H R σ2 en2 H' R2 F:=by
 have n1:∀ a,H1 a=none→H a=none:=fun a z=>by
  cases q:H a with
  | none=>rfl
  | some o =>
   obtain ⟨o',q'⟩:=P1.dom a o q
   rw [z] at q'
   cases q'
 refine ⟨P2.env,P2.fx,fun a o q n=>?_,fun a z=>?_,fun a o q=>?_,fun j hj=>(P2.lk j hj).trans (P1.lk j hj)⟩
 ·refine P2.keep a o (P1.keep a o q n) fun i z=>?_
  rcases P1.own a (.inr ⟨i,z⟩) with ⟨j,z⟩ | z
  ·exact n j z
  ·rw [q] at z; cases z
 ·rcases P2.own a z with z | z
  ·exact P1.own a (.inr z)
  ·exact .inr (n1 a z)
 ·obtain ⟨o',q'⟩:=P1.dom a o q
  exact P2.dom a o' q'
theorem Post.s {F:AS} (P:Post K p ds' Ox σ H en R en' H' R' F):PostS K lk ds' Ox σ H R σ en' H' R' F:=⟨P.env,P.fx,P.keep,P.own,P.dom,fun _ _=>rfl⟩
theorem PostS.cut {F:AS} (P:PostS K lk ds1 Ox σ H R σ' en' H' R' F) (hd:leD ds2 ds1=true):∃ R2,(∀ i a,R2 i a→R' i a)∧PostS K lk ds2 Ox σ H R σ' en' H' R2 F:=by
 obtain ⟨R2,s1,e2⟩:=P.env.cut (cj hd).1 (cj hd).2
 exact ⟨R2,s1,e2,P.fx,P.keep,fun a z=>P.own a (z.imp id fun ⟨i,z⟩=>⟨i,s1 i a z⟩),P.dom,P.lk⟩
theorem Br (h:tFS K J ds ds bQ D σ H):vY D σ H:=by
 obtain ⟨Ox,en,R,fl,e,hf,k⟩:=h
 cases hf
 exact k σ H R (PostS.refl e)
theorem Bp (h:tFS K J ds ds2 (au m1 m2) D σ H):Ah (tFS K J ds ds1 m1) (tFS K J ds1 ds2 m2) D σ H:=by
 obtain ⟨Ox,en,R,fl,e,hf,k⟩:=h
 unfold au at hf
 obtain ⟨fl1,h1,hf⟩:=Option.bind_eq_some_iff.mp hf
 refine ⟨Ox,en,R,fl1,e,h1,?_⟩
 cases fl1 with
 | nx en1 =>
  intro σ1 H1 R1 P1
  refine ⟨Ox,en1,R1,fl,P1.env0,hf,?_⟩
  cases fl with
  | nx en2=>exact fun σ2 H2 R2 P2=>k σ2 H2 R2 (P1.after P2)
  | ct en2=>exact fun σ2 H2 R2 P2=>k σ2 H2 R2 (P1.after P2)
  | rt t en2=>exact fun v σ2 H2 R2 F P2 o=>k v σ2 H2 R2 F (P1.after P2) o
 | ct en1=>cases hf; exact k
 | rt t en1=>cases hf; exact k
theorem oz (hd:leD ds1 ds2=true) (h:tFS K J ds ds1 m D σ H):tFS K J ds ds2 m D σ H:=by
 obtain ⟨Ox,en,R,fl,e,hf,k⟩:=h
 refine ⟨Ox,en,R,fl,e,hf,?_⟩
 cases fl with
 | nx en2 =>
  intro σ2 H2 R2 P2
  obtain ⟨R3,_,P3⟩:=P2.cut hd
  exact k σ2 H2 R3 P3
 | ct en2=>exact k
 | rt t en2=>exact k
theorem Bt (h:tFS K J ds ds1 (jl f) D σ H):vZ (tF K p ds ds1 d f) D σ H:=by
 obtain ⟨Ox,en,R,fl,e,hf,k⟩:=h
 unfold jl at hf
 obtain ⟨⟨t,en1⟩,h1,hf⟩:=Option.map_eq_some_iff.mp hf
 cases hf
 exact ⟨Ox,en,R,t,en1,e,h1,fun v H1 R1 F P o=>k σ H1 R1 (P.s.less fun _ z=>z.elim)⟩
theorem Bq (hd:leD J.dsr ds1=true) (h:tFS K J ds ds' (aR f) D σ H):Ai (tF K p ds ds1 J.dr f) D σ H:=by
 obtain ⟨Ox,en,R,fl,e,hf,k⟩:=h
 unfold aR at hf
 obtain ⟨⟨t,en1⟩,h1,hf⟩:=Option.map_eq_some_iff.mp hf
 cases hf
 refine ⟨Ox,en,R,t,en1,e,h1,fun v H1 R1 F P o=>?_⟩
 obtain ⟨R2,s1,P2⟩:=(P.s (lk:=J.lk)).cut hd
 exact k v σ H1 R2 F P2 (Ow.grow (fun a z=>z.imp (fun ⟨i,z⟩=>⟨i,s1 i a z⟩) id) t (fun _ z=>z) o)
theorem Cu (h:tFS K J ds ds2 (sIf c m1 m2) D σ H):Al (tFT K p ds ds1 c) (tFS K J ds1 ds2 m1) (tFS K J ds1 ds2 m2) D σ H:=by
 obtain ⟨Ox,en,R,fl,e,hf,k⟩:=h
 unfold sIf at hf
 obtain ⟨⟨b,en1⟩,h1,hf⟩:=Option.bind_eq_some_iff.mp hf
 refine ⟨Ox,en,R,b,en1,e,h1,fun H1 R1 P1=>?_⟩
 have fin:∀ m,m en1=some fl→tFS K J ds1 ds2 m D σ H1:=fun m hm=>by
  refine ⟨Ox,en1,R1,fl,P1.env0,hm,?_⟩
  cases fl with
  | nx en2=>exact fun σ2 H2 R2 P2=>k σ2 H2 R2 (P1.s.after P2)
  | ct en2=>exact fun σ2 H2 R2 P2=>k σ2 H2 R2 (P1.s.after P2)
  | rt t en2=>exact fun v σ2 H2 R2 F P2 o=>k v σ2 H2 R2 F (P1.s.after P2) o
 cases b with
 | true=>exact fin m1 hf
 | false=>exact fin m2 hf
theorem PostS.store {F:AS} {v:V} (P:Post K p ds1 Ox σ H en R en1 H' R' F) (o:Ow K (Own R' (U F Ox)) H' t d v F) (hi:i < ds1.length) (hl:i ∉ lk) :
  PostS K lk (ds1.set i d) Ox σ H R (σ.set i (some v)) (en1.set i (some t)) H' (fun j=>if j=i then F else R' j) NoA:=by
 have l1:=P.env.l1
 have l2:=P.env.l2
 have sub:∀ a,Own (fun j=>if j=i then F else R' j) Ox a→Own R' (U F Ox) a:=fun a z=>by
  rcases z with ⟨j,z⟩ | z
  ·by_cases hj:j=i
   ·rw [if_pos hj] at z; exact .inr (.inl z)
   ·rw [if_neg hj] at z; exact .inl ⟨j,z⟩
  ·exact .inr (.inr z)
 refine ⟨?_,fun _ z=>z.elim,P.keep,fun a z=>?_,P.dom,fun j hj=>?_⟩
 ·rw [cW]
  refine ⟨fun j u hu=>?_,fun j j' a z z'=>?_,fun j a z z2=>?_,fun a z=>P.env.dom a (sub a z),by rw [List.length_set,List.length_set]; exact l1,by rw [List.length_set,List.length_set]; exact l2⟩
  ·by_cases hj:j=i
   ·subst hj
    rw [List.getElem?_set_self (by omega)] at hu
    cases hu
    refine ⟨v,d,List.getElem?_set_self (by omega),List.getElem?_set_self hi,?_⟩
    rw [if_pos rfl]
    exact Ow.grow sub t (fun _ z=>z) o
   ·rw [List.getElem?_set_ne (Ne.symm hj)] at hu
    obtain ⟨v',d',g1,g2,g3⟩:=P.env.at_ j u hu
    refine ⟨v',d',by rw [List.getElem?_set_ne (Ne.symm hj)]; exact g1,by rw [List.getElem?_set_ne (Ne.symm hj)]; exact g2,?_⟩
    rw [if_neg hj]
    exact Ow.grow sub u (fun _ z=>z) g3
  ·by_cases hj:j=i <;> by_cases hj':j'=i
   ·rw [hj,hj']
   ·rw [if_pos hj] at z; rw [if_neg hj'] at z'
    exact absurd (.inl z) (P.env.dx j' a z')
   ·rw [if_neg hj] at z; rw [if_pos hj'] at z'
    exact absurd (.inl z') (P.env.dx j a z)
   ·rw [if_neg hj] at z; rw [if_neg hj'] at z'
    exact P.env.dj j j' a z z'
  ·by_cases hj:j=i
   ·rw [if_pos hj] at z
    exact P.fx a z z2
   ·rw [if_neg hj] at z
    exact P.env.dx j a z (.inr z2)
 ·rcases z with z | ⟨j,z⟩
  ·exact z.elim
  ·by_cases hj:j=i
   ·rw [if_pos hj] at z; exact P.own a (.inl z)
   ·rw [if_neg hj] at z; exact P.own a (.inr ⟨j,z⟩)
 ·rw [List.getElem?_set_ne]
  intro z
  subst z
  exact hl hj
theorem oA (hi:i < ds1.length) (hl:i ∉ J.lk) (h:tFS K J ds (ds1.set i d) (aC i f) D σ H):ki (tF K p ds ds1 d f) (iS i) D σ H:=by
 obtain ⟨Ox,en,R,fl,e,hf,k⟩:=h
 unfold aC at hf
 obtain ⟨⟨t,en1⟩,h1,hf⟩:=Option.map_eq_some_iff.mp hf
 cases hf
 exact ⟨Ox,en,R,t,en1,e,h1,fun v H1 R1 F P o=>k _ H1 _ (PostS.store P o hi hl)⟩
abbrev MG:=PyData→En→Option En
def tFG (K:PySem.W.Frag) (lk:List Nat) (ds ds':List Nat) (g:MG):TG:=fun v σ H Q =>
 ∃ Ox en R t en',EnvOk K ds Ox H σ en R∧Ow K (Own R Ox) H t 0 v NoA∧g t en=some en'∧∀ σ' R',PostS K lk ds' Ox σ H R σ' en' H R' NoA→(∀ j∈lk,R' j=R j)→Q σ' H
def gN (i:Nat):MG:=fun t en=>some (en.set i (some t))
def gs0:List PyData→En→Option En:=fun ts en=>match ts with
 | []=>some en
 | _=>none
def gsC (g:MG) (r:List PyData→En→Option En):List PyData→En→Option En:=fun ts en=>match ts with
 | t :: ts=>(g t en).bind fun en1=>r ts en1
 | []=>none
def gT (g:List PyData→En→Option En):MG:=fun t en=>match t with
 | .tuple ts=>g ts en
 | _=>none
variable {g g1:MG} {gs:List PyData→En→Option En} {v:V} {vs:List V} {QS:St→Hp→Prop}
theorem xF (hi:i < ds.length) (hl:i ∉ lk) (h:tFG K lk ds (ds.set i 0) (gN i) v σ H QS):iS i v σ H QS:=by
 obtain ⟨Ox,en,R,t,en',e,o,hf,k⟩:=h
 cases hf
 exact k _ _ (PostS.store (p:=true) (Post.refl e) (by rw [show (fun _=>False:AS)=NoA from rfl,cW]; exact o) hi hl) fun j hj=>if_neg (fun (z:j=i)=>hl (by rw [← z]; exact hj))
abbrev MI:=En→Option (List PyData × En)
def lj (K:PySem.W.Frag) (O:AS) (H0:Hp) (J:It) (ts:List PyData):Prop :=
 ∀ (i:Nat) (H:Hp) (O1:AS),(∀ a o,H0 a=some o→¬ O a→H a=some o)→(∀ a,O1 a→O a∨H0 a=none)→(∀ a,O1 a→∃ o,H a=some o) →
  (∀ t,ts[i]?=some t→J.go i H∧∀ x H1,J.yld i H x H1→(∀ a o,H a=some o→H1 a=some o)∧Ow K O1 H1 t 0 x NoA)∧(ts.length=i→J.stop i H)
def tFI (K:PySem.W.Frag) (p:Bool) (ds ds':List Nat) (f:MI):TI:=fun σ H RJ =>
 ∃ Ox en R ts en',EnvOk K ds Ox H σ en R∧f en=some (ts,en')∧∀ J H' R',Post K p ds' Ox σ H en R en' H' R' NoA→lj K (Own R' Ox) H' J ts→RJ J H'
def bY (g:MG) (b:MS):List PyData→En→Option Fl
 | [],en=>some (.nx en)
 | t :: ts,en=>(g t en).bind fun en1=>(b en1).bind fun fl=>match fl with
  | .nx en2=>bY g b ts en2
  | .ct en2=>bY g b ts en2
  | .rt r en2=>some (.rt r en2)
def dw (fi:MI) (g:MG) (b:MS):MS:=fun en=>(fi en).bind fun r=>bY g b r.1 r.2
theorem Bs {fi:MI} (h:tFS K J ds ds1 (dw fi g m) D σ H):Am (tFI K p ds ds1 fi) (tFG K J.lk ds1 ds2 g) (tFS K { J with dsl:=ds1 } ds2 ds1 m) D σ H:=by
 obtain ⟨Ox,en,R,fl,e,hf,k⟩:=h
 unfold dw at hf
 obtain ⟨⟨ts,en1⟩,h1,hf⟩:=Option.bind_eq_some_iff.mp hf
 refine ⟨Ox,en,R,ts,en1,e,h1,fun Jt H1 R1 P1 wk=>?_⟩
 refine ⟨fun i n σ' H'=>∃ en' R',n=ts.length - i∧i≤ts.length∧PostS K J.lk ds1 Ox σ H1 R1 σ' en' H' R' NoA∧bY g m (ts.drop i) en'=some fl,⟨_,en1,R1,rfl,Nat.zero_le _,PostS.refl P1.env0,hf⟩,?_⟩
 rintro i n σ2 H2 ⟨en2,R2,rfl,hi,P2,hr⟩
 obtain ⟨w1,w2⟩:=wk i H2 (Own R2 Ox) (fun a o q z=>P2.keep a o q fun j zj=>z (.inl ⟨j,zj⟩)) (fun a z=>by
  rcases z with z | z
  ·exact (P2.own a (.inr z)).imp .inl id
  ·exact .inl (.inr z)) fun a z=>P2.env0.dom a z
 by_cases hlt:i < ts.length
 ·obtain ⟨go,yl⟩:=w1 ts[i] (List.getElem?_eq_getElem hlt)
  have hd:ts.drop i=ts[i] :: ts.drop (i+1):=List.drop_eq_getElem_cons hlt
  rw [hd] at hr
  obtain ⟨en3,h3,hr⟩:=Option.bind_eq_some_iff.mp hr
  obtain ⟨fl2,h4,hr⟩:=Option.bind_eq_some_iff.mp hr
  refine .inr ⟨go,fun σ' H'=>∃ en' R',PostS K J.lk ds1 Ox σ H1 R1 σ' en' H' R' NoA∧bY g m (ts.drop (i+1)) en'=some fl,fun σ' H' ⟨en',R',P',h'⟩=>⟨ts.length - (i+1),by omega,en',R',rfl,hlt,P',h'⟩,fun x H3 y=>?_⟩
  obtain ⟨gr,ox⟩:=yl x H3 y
  have P3:Post K true ds1 Ox σ2 H2 en2 R2 en2 H3 R2 NoA:=Post.new P2.env0 gr fun _ z=>z.elim
  refine ⟨Ox,en2,R2,ts[i],en3,P3.env0,ox,h3,fun σ4 R4 P4 _=>?_⟩
  have P4':=(P2.after P3.s).after P4
  refine ⟨Ox,en3,R4,fl2,P4.env0,h4,?_⟩
  cases fl2 with
  | nx en5=>exact fun σ5 H5 R5 P5=>⟨en5,R5,P4'.after P5,hr⟩
  | ct en5=>exact fun σ5 H5 R5 P5=>⟨en5,R5,P4'.after P5,hr⟩
  | rt t en5 =>
   cases hr
   exact fun v σ5 H5 R5 F P5 o=>k v σ5 H5 R5 F (P1.s.after (P4'.after P5)) o
 ·have e2:i=ts.length:=by omega
  subst e2
  rw [List.drop_length] at hr
  cases hr
  exact .inl ⟨w2 rfl,k σ2 H2 R2 (P1.s.after P2)⟩
end
end L2
namespace L2
open PySem PySem.Spec PyProof.Rows
def lcF (g:MG) (c:MT) (f:ME):List D→List D→En→Option (List D × En)
 | [],acc,en=>some (acc,en)
 | t :: ts,acc,en=>(g t en).bind fun en1=>(c en1).bind fun r=>if r.1 then (f r.2).bind fun q=>if acc.length < sizeLine then lcF g c f ts (acc++[q.1]) q.2 else none else lcF g c f ts acc r.2
def b5 (js:List (Option Nat)) (en:En):En:=js.map fun j=>match j with
 | some j=>(en[j]?).join
 | none=>none
def wbB:List (Option Nat)→En→En→En
 | some j :: js,o :: r,en=>wbB js r (en.set j o)
 | none :: js,_ :: r,en=>wbB js r en
 | _,_,en=>en
def eLC (q:Bool) (fi:MI) (g:MG) (c:MT) (f:ME) (js:List (Option Nat)):ME:=fun en=>(fi en).bind fun r=>(lcF g c f r.1 [] (b5 js r.2)).map fun z=>(.list z.1,if q then r.2 else wbB js z.2 r.2)
def dC (ds:List Nat):List (Option Nat)→List Nat→Bool
 | [],[]=>true
 | some j :: js,d :: r=>decide (ds[j]?=some d) && (decide (some j ∉ js) && dC ds js r)
 | none :: js,_ :: r=>dC ds js r
 | _,_=>false
section
variable {K:PySem.W.Frag} {p p1 p2 q:Bool} {lk:List Nat} {ds ds0 ds1 ds2 ds' dsi:List Nat} {Ox Ox' O O':AS} {H H':Hp} {σ σ':St} {en en' en1 en2:En} {R R':Nat→AS} {d d' d1 d2 dr:Nat} {t t1 t2:D} {Q:VK} {f f1 f2:ME} {c:MT} {g:MG} {fi:MI} {i:Nat} {js:List (Option Nat)}
theorem ii:∀ {js:List (Option Nat)} {dsi:List Nat},dC ds js dsi=true→dsi.length=js.length∧(∀ (k j:Nat),js[k]?=some (some j)→∃ d,dsi[k]?=some d∧ds[j]?=some d)∧(∀ (k k' j:Nat),js[k]?=some (some j)→js[k']?=some (some j)→k=k')
 | [],[],_=>⟨rfl,fun k j z=>by simp at z,fun k k' j z=>by simp at z⟩
 | some j0 :: js,d :: r,h=>by
  unfold dC at h
  rw [Bool.and_eq_true,Bool.and_eq_true] at h
  obtain ⟨h1,h2,h3⟩:=h
  obtain ⟨a,b,c⟩:=ii h3
  have n:=of_decide_eq_true h2
  refine ⟨by rw [List.length_cons,List.length_cons,a],fun k j z=>?_,fun k k' j z z'=>?_⟩
  ·cases k with
   | zero=>simp at z; subst z; exact ⟨d,rfl,of_decide_eq_true h1⟩
   | succ k=>exact b k j (by simpa using z)
  ·cases k with
   | zero =>
    simp at z
    subst z
    cases k' with
    | zero=>rfl
    | succ k'=>exact absurd (List.mem_of_getElem? (by simpa using z':js[k']?=some (some j0))) n
   | succ k =>
    cases k' with
    | zero =>
     simp at z'
     subst z'
     exact absurd (List.mem_of_getElem? (by simpa using z:js[k]?=some (some j0))) n
    | succ k'=>rw [c k k' j (by simpa using z) (by simpa using z')]
 | none :: js,d :: r,h=>by
  unfold dC at h
  obtain ⟨a,b,c⟩:=ii h
  refine ⟨by rw [List.length_cons,List.length_cons,a],fun k j z=>?_,fun k k' j z z'=>?_⟩
  ·cases k with
   | zero=>simp at z
   | succ k=>exact b k j (by simpa using z)
  ·cases k with
   | zero=>simp at z
   | succ k =>
    cases k' with
    | zero=>simp at z'
    | succ k'=>rw [c k k' j (by simpa using z) (by simpa using z')]
 | [],_ :: _,h=>nomatch h
 | some _ :: _,[],h=>nomatch h
 | none :: _,[],h=>nomatch h
theorem ji:∀ (js:List (Option Nat)) (r en:En),(wbB js r en).length=en.length
 | [],_,_=>by unfold wbB; rfl
 | some _ :: _,[],_=>by unfold wbB; rfl
 | none :: _,[],_=>by unfold wbB; rfl
 | some j :: js,o :: r,en=>by unfold wbB; rw [ji js r _,List.length_set]
 | none :: js,o :: r,en=>by unfold wbB; exact ji js r _
theorem gC:∀ (js:List (Option Nat)) (r en:En) (i:Nat),(∀ k:Nat,js[k]?≠some (some i))→(wbB js r en)[i]?=en[i]?
 | [],_,_,_,_=>by unfold wbB; rfl
 | some _ :: _,[],_,_,_=>by unfold wbB; rfl
 | none :: _,[],_,_,_=>by unfold wbB; rfl
 | none :: js,o :: r,en,i,h=>by unfold wbB; exact gC js r en i fun j=>h (j+1)
 | some k :: js,o :: r,en,i,h=>by
  unfold wbB
  rw [gC js r _ i fun j=>h (j+1),List.getElem?_set_ne]
  intro e
  subst e
  exact h 0 rfl
theorem kd:∀ (js:List (Option Nat)) (r en:En) (i k:Nat),js[k]?=some (some i)→(∀ k':Nat,js[k']?=some (some i)→k'=k)→r.length=js.length→i < en.length→(wbB js r en)[i]?=r[k]?
 | [],_,_,_,_,h,_,_,_=>by simp at h
 | some _ :: js,[],_,_,_,_,_,h,_=>by simp at h
 | none :: js,[],_,_,_,_,_,h,_=>by simp at h
 | none :: js,o :: r,en,i,k,h,u,l,b=>by
  unfold wbB
  cases k with
  | zero=>simp at h
  | succ k=>exact kd js r en i k (by simpa using h) (fun j' z=>by have:=u (j'+1) (by simpa using z); omega) (by simpa using l) b
 | some j :: js,o :: r,en,i,k,h,u,l,b=>by
  unfold wbB
  cases k with
  | zero =>
   have e:j=i:=by simpa using h
   subst e
   rw [gC js r _ j fun j' z=>by have:=u (j'+1) (by simpa using z); omega]
   rw [List.getElem?_set_self b]
   rfl
  | succ k=>exact kd js r _ i k (by simpa using h) (fun j' z=>by have:=u (j'+1) (by simpa using z); omega) (by simpa using l) (by rw [List.length_set]; exact b)
theorem Ows.snoc:∀ {ts:List D} {vs:List V} {F1 F2:AS} {v:V},Ows K O H ts d vs F1→Ow K O H t d v F2→(∀ b,F1 b→¬ F2 b)→Ows K O H (ts++[t]) d (vs++[v]) (U F1 F2)
 | [],vs,F1,F2,v,h,h2,_=>by
  have e:vs=[]:=h
  subst e
  exact ⟨v,[],F2,NoA,rfl,fun _ z=>.inr z,fun _ z=>z.elim,fun _ _ z=>z.elim,h2,rfl⟩
 | u :: ts,vs,F1,F2,v,h,h2,hd=>by
  obtain ⟨w,r,G1,G2,e,s1,s2,s3,h4,h5⟩:=h
  subst e
  refine ⟨w,r++[v],G1,U G2 F2,rfl,fun b z=>.inl (s1 b z),fun b z=>z.imp (s2 b) id,fun b z z2=>?_,h4,Ows.snoc h5 h2 fun b z=>hd b (s2 b z)⟩
  rcases z2 with z2 | z2
  ·exact s3 b z z2
  ·exact hd b (s1 b z) z2
theorem Ows.len:∀ {ts:List D} {vs:List V} {F:AS},Ows K O H ts d vs F→vs.length=ts.length
 | [],_,_,h=>by rw [show _=[] from h]; rfl
 | t :: ts,_,_,h=>by
  obtain ⟨v,r,F1,F2,e,h1,h2,h3,h4,h5⟩:=h
  rw [e,List.length_cons,List.length_cons,h5.len]
def dB:List (Option Nat)→Nat→List Nat
 | [],_=>[]
 | some _ :: r,n=>n :: dB r (n+1)
 | none :: r,n=>dB r (n+1)
theorem fJ:∀ {js:List (Option Nat)} {n k j:Nat},js[k]?=some (some j)→n+k∈dB js n
 | [],n,k,j,h=>by simp at h
 | some x :: r,n,k,j,h=>by
  unfold dB
  cases k with
  | zero=>exact List.mem_cons_self
  | succ k =>
   refine List.mem_cons_of_mem _ ?_
   have:=fJ (n:=n+1) (k:=k) (j:=j) (by simpa using h)
   rw [show n+(k+1)=n+1+k by omega]
   exact this
 | none :: r,n,k,j,h=>by
  unfold dB
  cases k with
  | zero=>simp at h
  | succ k =>
   have:=fJ (n:=n+1) (k:=k) (j:=j) (by simpa using h)
   rw [show n+(k+1)=n+1+k by omega]
   exact this
def lb (js:List (Option Nat)) (R1:Nat→AS):Nat→AS:=fun k=>match js[k]? with
 | some (some j)=>R1 j
 | _=>NoA
theorem xY {R1:Nat→AS} {k j:Nat} (h:js[k]?=some (some j)):lb js R1 k=R1 j:=by unfold lb; rw [h]
theorem xX {R1:Nat→AS} {k:Nat} {a:Addr} (h:lb js R1 k a):∃ j,js[k]?=some (some j)∧R1 j a:=by
 unfold lb at h
 cases q:js[k]? with
 | none=>rw [q] at h; exact h.elim
 | some o =>
  rw [q] at h
  cases o with
  | none=>exact h.elim
  | some j=>exact ⟨j,rfl,h⟩
theorem qj {cd:Nat} (hc:dC ds1 js dsi=true) (hd:dn d=cd) (hz:d≠0) (hl:lk=dB js 0) (h:tF K (p && q) ds ds1 d (eLC q fi g c f js) σ H Q) :
  tLC (tFI K p ds ds1 fi) (tFG K lk dsi dsi g) (tFT K q dsi dsi c) (tF K q dsi dsi cd f) js σ H Q:=by
 obtain ⟨Ox,en,R,t,en',e,hf,k⟩:=h
 unfold eLC at hf
 obtain ⟨⟨ts,en1⟩,h1,hf⟩:=Option.bind_eq_some_iff.mp hf
 obtain ⟨⟨fin,enf⟩,h2,hf⟩:=Option.map_eq_some_iff.mp hf
 cases hf
 obtain ⟨cl,c1,c2⟩:=ii hc
 refine ⟨Ox,en,R,ts,en1,e,h1,fun J H1 R1 P1 wk D hD=>?_⟩
 have E1:=P1.env0
 generalize hRI:lb js R1=RI
 have ri1:∀ k j:Nat,js[k]?=some (some j)→RI k=R1 j:=fun k j z=>by rw [← hRI]; exact xY z
 have ric:∀ (k:Nat) a,RI k a→∃ j,js[k]?=some (some j)∧R1 j a:=fun k a z=>by rw [← hRI] at z; exact xX z
 let OxI:AS:=fun a=>Ox a∨a=D∨∃ i,R1 i a∧∀ k:Nat,js[k]?≠some (some i)
 have nD:∀ a,Own R1 Ox a→a≠D:=fun a z z2=>by
  subst z2
  obtain ⟨o,q⟩:=E1.dom a z
  rw [hD] at q
  cases q
 have lI:(b5 js en1).length=js.length:=by unfold b5; rw [List.length_map]
 have lS:(cE js σ).length=js.length:=by unfold cE; rw [List.length_map]
 have getE:∀ (k:Nat) t,(b5 js en1)[k]?=some (some t)→∃ j,js[k]?=some (some j)∧en1[j]?=some (some t):=fun k t z=>by
  unfold b5 at z
  rw [List.getElem?_map] at z
  obtain ⟨oj,h1,h2⟩:=Option.map_eq_some_iff.mp z
  cases oj with
  | none=>cases h2
  | some j =>
   refine ⟨j,h1,?_⟩
   have h2':(en1[j]?).join=some t:=h2
   cases q:en1[j]? with
   | none=>rw [q] at h2'; cases h2'
   | some o=>rw [q] at h2'; exact congrArg some h2'
 have getS:∀ (k j:Nat) v,js[k]?=some (some j)→σ[j]?=some (some v)→(cE js σ)[k]?=some (some v):=fun k j v z1 z2=>by
  unfold cE
  rw [List.getElem?_map,z1]
  show some ((σ[j]?).join)=_
  rw [z2]
  rfl
 have u2:∀ a o,H1 a=some o→upd H1 D (.lst []) a=some o:=fun a o q=>(bu (o:=.lst []) hD).1 a o q
 have EI:EnvOk K dsi OxI (upd H1 D (.lst [])) (cE js σ) (b5 js en1) RI:=by
  refine ⟨fun k t hk=>?_,fun k k' a z z'=>?_,fun k a z z2=>?_,fun a z=>?_,by rw [lI,lS],by rw [cl,lS]⟩
  ·obtain ⟨j,hj,ht⟩:=getE k t hk
   obtain ⟨v,d,g1,g2,g3⟩:=E1.at_ j t ht
   obtain ⟨d',q1,q2⟩:=c1 k j hj
   rw [g2] at q2
   cases q2
   refine ⟨v,d,getS k j v hj g1,q1,?_⟩
   rw [ri1 k j hj]
   refine Ow.mv (G:=R1 j) ⟨fun a o q _=>u2 a o q,fun a z=>?_⟩ t (fun _ z=>z) g3
   rcases z with ⟨k',z⟩ | z | z | ⟨i,z,_⟩
   ·obtain ⟨j',_,z⟩:=ric k' a z
    exact .inl (.inl ⟨j',z⟩)
   ·exact .inl (.inr z)
   ·exact .inr (z ▸ hD)
   ·exact .inl (.inl ⟨i,z⟩)
  ·obtain ⟨j,hj,z⟩:=ric k a z
   obtain ⟨j',hj',z'⟩:=ric k' a z'
   have:=E1.dj j j' a z z'
   subst this
   exact c2 k k' j hj hj'
  ·obtain ⟨j,hj,z⟩:=ric k a z
   rcases z2 with z2 | z2 | ⟨i,z2,n⟩
   ·exact E1.dx j a z z2
   ·exact nD a (.inl ⟨j,z⟩) z2
   ·have:=E1.dj j i a z z2
    subst this
    exact n k hj
  ·rcases z with ⟨k,z⟩ | z | z | ⟨i,z,_⟩
   ·obtain ⟨j,hj,z⟩:=ric k a z
    obtain ⟨o,q⟩:=E1.dom a (.inl ⟨j,z⟩)
    exact ⟨o,u2 a o q⟩
   ·obtain ⟨o,q⟩:=E1.dom a (.inr z)
    exact ⟨o,u2 a o q⟩
   ·subst z
    exact ⟨_,aG⟩
   ·obtain ⟨o,q⟩:=E1.dom a (.inl ⟨i,z⟩)
    exact ⟨o,u2 a o q⟩
 refine ⟨fun i n τ H'=>∃ eni RI' acc vs Fa,n=ts.length - i∧i≤ts.length∧PostS K lk dsi OxI (cE js σ) H1 RI τ eni H' RI' Fa∧H' D=some (.lst vs)∧Ows K (Own RI' (U Fa OxI)) H' acc cd vs Fa∧lcF g c f (ts.drop i) acc eni=some (fin,enf) ∧
   (q=true→(∀ k j:Nat,js[k]?=some (some j)→RI' k=RI k)∧(∀ a o,H1 a=some o→H' a=some o)),
  ⟨_,b5 js en1,RI,[],[],NoA,rfl,Nat.zero_le _,⟨by rw [cW]; exact EI,fun _ z=>z.elim,fun a o q _=>u2 a o q,fun a z=>z.elim (fun z=>z.elim) .inl,fun a o q=>⟨o,u2 a o q⟩,fun _ _=>rfl⟩,aG,rfl,h2,fun _=>⟨fun _ _ _=>rfl,u2⟩⟩,?_⟩
 rintro i n τ H2 ⟨eni,RI2,acc,vs,Fa,rfl,hi,P2,hDl,oacc,hr,pu⟩
 have ge:∀ a,Own RI2 (U Fa OxI) a→Own R1 Ox a∨H1 a=none:=fun a z=>by
  rcases z with z | z | z | z | ⟨i,z,_⟩
  ·rcases P2.own a (.inr z) with ⟨k,z⟩ | z
   ·obtain ⟨j,_,z⟩:=ric k a z
    exact .inl (.inl ⟨j,z⟩)
   ·exact .inr z
  ·rcases P2.own a (.inl z) with ⟨k,z⟩ | z
   ·obtain ⟨j,_,z⟩:=ric k a z
    exact .inl (.inl ⟨j,z⟩)
   ·exact .inr z
  ·exact .inl (.inr z)
  ·exact .inr (z ▸ hD)
  ·exact .inl (.inl ⟨i,z⟩)
 obtain ⟨w1,w2⟩:=wk i H2 (Own RI2 (U Fa OxI)) (fun a o q z=>P2.keep a o q fun k zk=>by
  obtain ⟨j,_,zj⟩:=ric k a zk
  exact z (.inl ⟨j,zj⟩)) ge fun a z=>P2.env.dom a z
 have DO:OxI D:=.inr (.inl rfl)
 by_cases hlt:i < ts.length
 ·obtain ⟨go,yl⟩:=w1 ts[i] (List.getElem?_eq_getElem hlt)
  rw [List.drop_eq_getElem_cons hlt] at hr
  obtain ⟨en3,h3,hr⟩:=Option.bind_eq_some_iff.mp hr
  obtain ⟨⟨b,en4⟩,h4,hr⟩:=Option.bind_eq_some_iff.mp hr
  refine .inr ⟨go,fun τ' H'=>∃ eni RI' acc vs Fa,PostS K lk dsi OxI (cE js σ) H1 RI τ' eni H' RI' Fa∧H' D=some (.lst vs)∧Ows K (Own RI' (U Fa OxI)) H' acc cd vs Fa∧lcF g c f (ts.drop (i+1)) acc eni=some (fin,enf)∧(q=true→(∀ k j:Nat,js[k]?=some (some j)→RI' k=RI k)∧(∀ a o,H1 a=some o→H' a=some o)),
   fun τ' H' ⟨eni,RI',acc,vs,Fa,P',x1,x2,x3,x4⟩=>⟨_,by omega,eni,RI',acc,vs,Fa,rfl,hlt,P',x1,x2,x3,x4⟩,fun x H3 y=>?_⟩
  obtain ⟨gr,ox⟩:=yl x H3 y
  have P3:Post K true dsi (U Fa OxI) τ H2 eni RI2 eni H3 RI2 NoA:=Post.new P2.env gr fun _ z=>z.elim
  have chain:∀ {τ5 en5 H5 RI5 F5},PostS K lk dsi (U Fa OxI) τ H2 RI2 τ5 en5 H5 RI5 F5→PostS K lk dsi OxI (cE js σ) H1 RI τ5 en5 H5 RI5 (U Fa F5):=fun {τ5 en5 H5 RI5 F5} P5=>by
   have n1:∀ a,H2 a=none→H1 a=none:=fun a z=>by
    cases q:H1 a with
    | none=>rfl
    | some o =>
     obtain ⟨o',q'⟩:=P2.dom a o q
     rw [z] at q'
     cases q'
   refine ⟨ja ▸ P5.env,fun a z z2=>?_,fun a o q n=>?_,fun a z=>?_,fun a o q=>?_,fun j hj=>(P5.lk j hj).trans (P2.lk j hj)⟩
   ·rcases z with z | z
    ·exact P2.fx a z z2
    ·exact P5.fx a z (.inr z2)
   ·refine P5.keep a o (P2.keep a o q n) fun i z=>?_
    rcases P2.own a (.inr ⟨i,z⟩) with ⟨j,z⟩ | z
    ·exact n j z
    ·rw [q] at z; cases z
   ·rcases z with (z | z) | z
    ·exact P2.own a (.inl z)
    ·rcases P5.own a (.inl z) with z | z
     ·exact P2.own a (.inr z)
     ·exact .inr (n1 a z)
    ·rcases P5.own a (.inr z) with z | z
     ·exact P2.own a (.inr z)
     ·exact .inr (n1 a z)
   ·obtain ⟨o',q'⟩:=P2.dom a o q
    exact P5.dom a o' q'
  have carry:∀ {τ5 en5 H5 RI5 F5},PostS K lk dsi (U Fa OxI) τ H2 RI2 τ5 en5 H5 RI5 F5→Ows K (Own RI5 (U (U Fa F5) OxI)) H5 acc cd vs Fa:=fun {τ5 en5 H5 RI5 F5} P5=>by
   refine Ows.mv (G:=Fa) ⟨fun a o q z=>P5.keep a o q fun i zi=>?_,fun a z=>?_⟩ acc (fun _ z=>z) oacc
   ·rcases z with z | z
    ·exact z (.inl ⟨i,zi⟩)
    ·exact P2.env.dx i a zi (.inl z)
   ·rcases z with z | (z | z) | z
    ·exact (P5.own a (.inr z)).imp .inl id
    ·exact .inl (.inr (.inl z))
    ·exact (P5.own a (.inl z)).imp .inl id
    ·exact .inl (.inr (.inr z))
  have UFN:U Fa NoA=Fa:=di fun a=>⟨fun z=>z.elim id fun z=>z.elim,.inl⟩
  refine ⟨U Fa OxI,eni,RI2,ts[i],en3,P3.env0,ox,h3,fun τ4 R4 P4 r4=>?_⟩
  have P4':=(P3.s (lk:=lk)).after P4
  refine ⟨U Fa OxI,en3,R4,b,en4,P4.env0,h4,fun H5 R5 P5=>?_⟩
  have P5':=P4'.after (P5.s (lk:=lk))
  have pu5:q=true→(∀ k j:Nat,js[k]?=some (some j)→R5 k=RI k)∧(∀ a o,H1 a=some o→H5 a=some o):=fun hq=>by
   obtain ⟨_,b2,b3⟩:=P5.pure hq
   obtain ⟨e1,e2⟩:=pu hq
   refine ⟨fun k j z=>?_,fun a o qq=>b3 a o (gr a o (e2 a o qq))⟩
   rw [b2,r4 k (by rw [hl]; have:=fJ (n:=0) z; rw [Nat.zero_add] at this; exact this)]
   exact e1 k j z
  cases b with
  | false =>
   dsimp only
   rw [if_neg Bool.false_ne_true]
   have c5:=chain P5'
   have o5:=carry P5'
   rw [UFN] at c5 o5
   exact ⟨en4,R5,acc,vs,Fa,c5,P5'.keep D _ hDl fun k z=>P2.env.dx k D z (.inr DO),o5,hr,pu5⟩
  | true =>
   dsimp only
   rw [if_pos rfl]
   obtain ⟨⟨t6,en6⟩,h6,hr⟩:=Option.bind_eq_some_iff.mp (show ((f en4).bind fun q=>if acc.length < sizeLine then lcF g c f (ts.drop (i+1)) (acc++[q.1]) q.2 else none)=some (fin,enf) from hr)
   refine ⟨U Fa OxI,en4,R5,t6,en6,P5.env0,h6,fun v H6 R6 F6 P6 o6=>?_⟩
   have P6':=P5'.after (P6.s (lk:=lk))
   by_cases hlen:acc.length < sizeLine
   case neg=>rw [if_neg hlen] at hr; cases hr
   rw [if_pos hlen] at hr
   have hD6:=P6'.keep D _ hDl fun k z=>P2.env.dx k D z (.inr DO)
   refine ⟨vs,hD6,by rw [oacc.len]; exact hlen,en6,R6,acc++[t6],vs++[v],U Fa F6,?_,aG,?_,hr,?_⟩
   ·have c6:=chain P6'
    have keepD:∀ a o,H6 a=some o→a≠D→upd H6 D (.lst (vs++[v])) a=some o:=fun a o q n=>by rw [aP n]; exact q
    refine ⟨⟨fun k t hk=>?_,c6.env.dj,c6.env.dx,fun a z=>?_,c6.env.l1,c6.env.l2⟩,c6.fx,fun a o q n=>?_,c6.own,fun a o q=>?_,c6.lk⟩
    ·obtain ⟨v',d',g1,g2,g3⟩:=c6.env.at_ k t hk
     refine ⟨v',d',g1,g2,Ow.mv (G:=R6 k) ⟨fun a o q z=>keepD a o q fun zD=>?_,fun a z=>.inl z⟩ t (fun _ z=>z) g3⟩
     subst zD
     rcases z with z | z
     ·exact z (.inr (.inr DO))
     ·exact c6.env.dx k a z (.inr DO)
    ·by_cases ha:a=D
     ·subst ha; exact ⟨_,aG⟩
     ·obtain ⟨o,q⟩:=c6.env.dom a z
      exact ⟨o,keepD a o q ha⟩
    ·refine keepD a o (c6.keep a o q n) fun zD=>?_
     subst zD
     rw [hD] at q
     cases q
    ·obtain ⟨o',q'⟩:=c6.dom a o q
     by_cases ha:a=D
     ·subst ha; exact ⟨_,aG⟩
     ·exact ⟨o',keepD a o' q' ha⟩
   ·have o1:=carry P6'
    have o2:Ow K (Own R6 (U (U Fa F6) OxI)) H6 t6 cd v F6:=ja ▸ o6
    have:=Ows.snoc o1 o2 fun b z1 z2=>P6.fx b z2 (.inl z1)
    refine Ows.mv (G:=U Fa F6) ⟨fun a o q z=>?_,fun a z=>.inl z⟩ _ (fun _ z=>z) this
    rw [aP]
    ·exact q
    ·intro zD
     subst zD
     rcases z with z | z | z
     ·exact z (.inr (.inr DO))
     ·exact P2.fx a z DO
     ·exact P6.fx a z (.inr DO)
   ·intro hq
    obtain ⟨_,b2,b3⟩:=P6.pure hq
    obtain ⟨e1,e2⟩:=pu5 hq
    refine ⟨fun k j z=>by rw [b2]; exact e1 k j z,fun a o qq=>?_⟩
    rw [aP]
    ·exact b3 a o (e2 a o qq)
    ·intro zD
     subst zD
     rw [hD] at qq
     cases qq
 ·have e2:i=ts.length:=by omega
  subst e2
  rw [List.drop_length] at hr
  obtain ⟨e3,e4⟩:acc=fin∧eni=enf:=by cases hr; exact ⟨rfl,rfl⟩
  subst e3 e4
  refine .inl ⟨w2 rfl,?_⟩
  have fD:∀ a,Fa a→a≠D:=fun a z z2=>by
   subst z2
   exact P2.fx a z DO
  cases hq:q with
  | true =>
   obtain ⟨e1,e2⟩:=pu hq
   subst hq
   have fn:∀ a,Fa a→H1 a=none:=fun a z=>by
    rcases P2.own a (.inl z) with ⟨k,z2⟩ | z2
    ·obtain ⟨j,hj,z3⟩:=ric k a z2
     rw [← e1 k j hj] at z2
     exact absurd (.inl z) (P2.env.dx k a z2)
    ·exact z2
   have nt:NewTo H1 H2 (fun a=>a=D∨Fa a):=⟨e2,fun a z=>by
    rcases z with z | z
    ·subst z
     exact ⟨hD,_,hDl⟩
    ·exact ⟨fn a z,P2.env.dom a (.inr (.inl z))⟩⟩
   have PF:=P1.fin nt
   rw [Bool.and_true] at k
   refine k (.ref D) H2 R1 _ PF ⟨D,vs,rfl,.inr ⟨hz,hDl,.inl rfl,Fa,fun b z=>⟨.inr z,fD b z⟩,?_⟩⟩
   rw [hd]
   refine Ows.grow (fun a z=>?_) _ (fun _ z=>z) oacc
   rcases z with ⟨i,z⟩ | (z | z) | z
   ·by_cases hc2:∃ kk:Nat,js[kk]?=some (some i)
    ·obtain ⟨kk,hk⟩:=hc2
     refine .inl ⟨kk,?_⟩
     rw [e1 kk i hk,ri1 kk i hk]
     exact z
    ·exact .inr (.inr (.inr (.inr ⟨i,z,fun kk hk=>hc2 ⟨kk,hk⟩⟩)))
   ·exact .inr (.inr (z ▸ DO))
   ·exact .inr (.inl z)
   ·exact .inr (.inr (.inl z))
  | false =>
   subst hq
   rw [Bool.and_false] at k
   classical
   let R3:Nat→AS:=fun i=>if hh:∃ kk:Nat,js[kk]?=some (some i) then RI2 hh.choose else R1 i
   have r31:∀ (i kk:Nat),js[kk]?=some (some i)→R3 i=RI2 kk:=fun i kk z=>by
    have hh:∃ kk:Nat,js[kk]?=some (some i):=⟨kk,z⟩
    have:hh.choose=kk:=c2 _ _ i hh.choose_spec z
    show (if hh:∃ kk:Nat,js[kk]?=some (some i) then RI2 hh.choose else R1 i)=RI2 kk
    rw [dif_pos hh,this]
   have r32:∀ i:Nat,(∀ kk:Nat,js[kk]?≠some (some i))→R3 i=R1 i:=fun i z=>by
    show (if hh:∃ kk:Nat,js[kk]?=some (some i) then RI2 hh.choose else R1 i)=R1 i
    rw [dif_neg fun ⟨j,q⟩=>z j q]
   have r3c:∀ (i:Nat) a,R3 i a→(∃ kk:Nat,js[kk]?=some (some i)∧RI2 kk a)∨((∀ kk:Nat,js[kk]?≠some (some i))∧R1 i a):=fun i a z=>by
    by_cases hh:∃ kk:Nat,js[kk]?=some (some i)
    ·obtain ⟨kk,hk⟩:=hh
     rw [r31 i kk hk] at z
     exact .inl ⟨kk,hk,z⟩
    ·rw [r32 i fun j z=>hh ⟨j,z⟩] at z
     exact .inr ⟨fun j z=>hh ⟨j,z⟩,z⟩
   have sub3:∀ a,Own R3 (U (fun a=>a=D∨Fa a) Ox) a→Own RI2 (U Fa OxI) a:=fun a z=>by
    rcases z with ⟨i,z⟩ | (z | z) | z
    ·rcases r3c i a z with ⟨j,_,z⟩ | ⟨n,z⟩
     ·exact .inl ⟨j,z⟩
     ·exact .inr (.inr (.inr (.inr ⟨i,z,n⟩)))
    ·exact .inr (.inr (z ▸ DO))
    ·exact .inr (.inl z)
    ·exact .inr (.inr (.inl z))
   have el:eni.length=js.length:=by rw [P2.env.l1,← P2.env.l2]; exact cl
   have riO:∀ (kk:Nat) a,RI kk a→Own R1 Ox a:=fun kk a z=>by
    obtain ⟨j,_,z⟩:=ric kk a z
    exact .inl ⟨j,z⟩
   have env3:EnvOk K ds1 (U (fun a=>a=D∨Fa a) Ox) H2 σ (wbB js eni en1) R3:=by
    refine ⟨fun i u hu=>?_,fun i i' a z z'=>?_,fun i a z z2=>?_,fun a z=>P2.env.dom a (sub3 a z),by rw [ji]; exact E1.l1,E1.l2⟩
    ·by_cases hh:∃ kk:Nat,js[kk]?=some (some i)
     ·obtain ⟨kk,hk⟩:=hh
      obtain ⟨dd,q1,q2⟩:=c1 kk i hk
      have hil:i < en1.length:=by rw [E1.l1,← E1.l2]; exact (List.getElem?_eq_some_iff.mp q2).1
      rw [kd js eni en1 i kk hk (fun k' z=>c2 k' kk i z hk) el hil] at hu
      obtain ⟨v,d',g1,g2,g3⟩:=P2.env.at_ kk u hu
      rw [q1] at g2
      cases g2
      have hlk:=P2.lk kk (by rw [hl]; have:=fJ (n:=0) hk; rw [Nat.zero_add] at this; exact this)
      rw [hlk] at g1
      refine ⟨v,dd,?_,q2,?_⟩
      ·unfold cE at g1
       rw [List.getElem?_map,hk] at g1
       have g1':(σ[i]?).join=some v:=Option.some.inj g1
       cases q3:σ[i]? with
       | none=>rw [q3] at g1'; cases g1'
       | some o=>rw [q3] at g1'; exact congrArg some g1'
      ·rw [r31 i kk hk]
       exact Ow.grow sub3 u (fun _ z=>z) g3
     ·rw [gC js eni en1 i fun j z=>hh ⟨j,z⟩] at hu
      have ns:∀ j:Nat,js[j]?≠some (some i):=fun j z=>hh ⟨j,z⟩
      obtain ⟨v,d',g1,g2,g3⟩:=E1.at_ i u hu
      refine ⟨v,d',g1,g2,?_⟩
      rw [r32 i ns]
      refine Ow.mv (G:=R1 i) ⟨fun a o q z=>P2.keep a o q fun j zj=>?_,fun a z=>ge a (sub3 a z)⟩ u (fun _ z=>z) g3
      obtain ⟨j',hj',zj⟩:=ric j a zj
      rcases z with z | z
      ·exact z (.inl ⟨j',zj⟩)
      ·have:=E1.dj i j' a z zj
       subst this
       exact ns j hj'
    ·rcases r3c i a z with ⟨j,q,z⟩ | ⟨n,z⟩ <;> rcases r3c i' a z' with ⟨j',q',z'⟩ | ⟨n',z'⟩
     ·have:=P2.env.dj j j' a z z'
      subst this
      rw [q] at q'
      cases q'
      rfl
     ·exact absurd (.inr (.inr (.inr ⟨i',z',n'⟩))) (P2.env.dx j a z)
     ·exact absurd (.inr (.inr (.inr ⟨i,z,n⟩))) (P2.env.dx j' a z')
     ·exact E1.dj i i' a z z'
    ·rcases r3c i a z with ⟨j,q,z⟩ | ⟨n,z⟩
     ·refine P2.env.dx j a z ?_
      rcases z2 with (z2 | z2) | z2
      ·exact .inr (z2 ▸ DO)
      ·exact .inl z2
      ·exact .inr (.inl z2)
     ·rcases z2 with (z2 | z2) | z2
      ·exact nD a (.inl ⟨i,z⟩) z2
      ·exact P2.fx a z2 (.inr (.inr ⟨i,z,n⟩))
      ·exact E1.dx i a z z2
   have n1:∀ a,H1 a=none→H a=none:=fun a z=>by
    cases q:H a with
    | none=>rfl
    | some o =>
     obtain ⟨o',q'⟩:=P1.dom a o q
     rw [z] at q'
     cases q'
   refine k (.ref D) H2 R3 (fun a=>a=D∨Fa a) ⟨env3,fun a z z2=>?_,fun a o q n=>?_,fun a z=>?_,fun a o q=>?_,fun z=>nomatch z⟩ ⟨D,vs,rfl,.inr ⟨hz,hDl,.inl rfl,Fa,fun b z=>⟨.inr z,fD b z⟩,?_⟩⟩
   ·rcases z with z | z
    ·exact nD a (.inr z2) z
    ·exact P2.fx a z (.inl z2)
   ·refine P2.keep a o (P1.keep a o q n) fun kk z=>?_
    obtain ⟨j,_,z⟩:=ric kk a z
    rcases P1.own a (.inr ⟨j,z⟩) with ⟨i',z⟩ | z
    ·exact n i' z
    ·rw [q] at z; cases z
   ·have h3:(∃ i,R1 i a)∨H1 a=none:=by
     have h4:(Fa a∨∃ kk,RI2 kk a)→(∃ i,R1 i a)∨H1 a=none:=fun z=>by
      rcases P2.own a z with ⟨kk,z⟩ | z
      ·obtain ⟨j,_,z⟩:=ric kk a z
       exact .inl ⟨j,z⟩
      ·exact .inr z
     rcases z with (z | z) | ⟨i,z⟩
     ·exact .inr (z ▸ hD)
     ·exact h4 (.inl z)
     ·rcases r3c i a z with ⟨j,_,z⟩ | ⟨n,z⟩
      ·exact h4 (.inr ⟨j,z⟩)
      ·exact .inl ⟨i,z⟩
    rcases h3 with h3 | h3
    ·exact P1.own a (.inr h3)
    ·exact .inr (n1 a h3)
   ·obtain ⟨o',q'⟩:=P1.dom a o q
    exact P2.dom a o' q'
   ·rw [hd]
    exact Ows.grow sub3 _ (fun _ z=>z) oacc
end
end L2
namespace L2
open PySem PySem.Spec PyProof.Rows
def msk:List Nat→En→En
 | d :: ds,o :: en=>(if d=0 then none else o) :: msk ds en
 | _,_=>[]
def fnF (n:Nat) (dps:List Nat) (b:MS):List PyData→Option (PyData × En):=fun ts=>(b (ts.map some++List.replicate n none)).bind fun fl=>match fl with
 | .rt t en=>some (t,msk dps en)
 | .nx en=>some (.none,msk dps en)
 | .ct _=>none
def kF (dps:List Nat):List Nat:=(List.range dps.length).filter fun j=>dps[j]? != some 0
section
variable {K:PySem.W.Frag} {p p1 p2 q:Bool} {J:Jd} {lk:List Nat} {ds ds0 ds1 ds2 ds' dps:List Nat} {Ox Ox' O O':AS} {H H' H1:Hp} {σ σ':St} {en en' en1 en2:En} {R R' R1:Nat→AS} {d d' d1 d2 dr:Nat} {t t1 t2:PyData} {Q:VK} {f f1 f2:ME} {i:Nat} {v:V} {D:Ends}
theorem lR:∀ {dps:List Nat} {en:En} {j:Nat} {u:PyData},(msk dps en)[j]?=some (some u)→∃ d,dps[j]?=some d∧d≠0∧en[j]?=some (some u)
 | [],en,j,u,h=>by unfold msk at h; simp at h
 | d :: ds,[],j,u,h=>by unfold msk at h; simp at h
 | d :: ds,o :: en,j,u,h=>by
  unfold msk at h
  cases j with
  | zero =>
   by_cases hd:d=0
   ·simp [hd] at h
   ·refine ⟨d,rfl,hd,?_⟩
    simpa [hd] using h
  | succ j =>
   have:=lR (dps:=ds) (en:=en) (j:=j) (u:=u) (by simpa using h)
   simpa using this
theorem lQ:∀ {dps:List Nat} {en:En},dps.length≤en.length→(msk dps en).length=dps.length
 | [],en,_=>by unfold msk; rfl
 | d :: ds,[],h=>by simp at h
 | d :: ds,o :: en,h=>by
  unfold msk
  rw [List.length_cons,List.length_cons,lQ (by simpa using h)]
theorem xD {N:List Str} {vs:List V} {E:XK} {n:Nat} {b:MS} (hn:N.length - dps.length=n) (h:spF K dps dr (fnF n dps b) vs H Q E) :
  tFS K ⟨kF dps,dps++List.replicate n 0,dr,[]⟩ (dps++List.replicate n 0) (dps++List.replicate n 0) b { nx:=fun _ H'=>Q .non H',rt:=Q } (cf N vs) H:=by
 obtain ⟨Ox,ts,R,r,outs,e,hf,k⟩:=h
 have lv:dps.length=vs.length:=by have:=e.l2; rw [List.length_map] at this; exact this
 have lt:ts.length=vs.length:=by have:=e.l1; rw [List.length_map,List.length_map] at this; exact this
 have hs:cf N vs=vs.map some++List.replicate n none:=by unfold cf; rw [← lv,hn]
 unfold fnF at hf
 obtain ⟨fl,h1,hf⟩:=Option.bind_eq_some_iff.mp hf
 have get0:∀ {α:Type} (xs:List α) (i:Nat) (u:α),(xs.map some++List.replicate n none)[i]?=some (some u)→(xs.map some)[i]?=some (some u)∧i < xs.length:=fun xs i u z=>by
  by_cases hi:i < xs.length
  ·rw [List.getElem?_append_left (by rw [List.length_map]; exact hi)] at z
   exact ⟨z,hi⟩
  ·rw [List.getElem?_append_right (by rw [List.length_map]; omega),List.getElem?_replicate] at z
   split at z
   ·cases z
   ·cases z
 have e0:EnvOk K (dps++List.replicate n 0) Ox H (cf N vs) (ts.map some++List.replicate n none) R:=by
  rw [hs]
  refine ⟨fun i u hu=>?_,e.dj,e.dx,e.dom,by simp [lt],by simp [lv]⟩
  obtain ⟨hu',hi⟩:=get0 ts i u hu
  obtain ⟨v,d,g1,g2,g3⟩:=e.at_ i u hu'
  refine ⟨v,d,?_,?_,g3⟩
  ·rw [List.getElem?_append_left (by rw [List.length_map]; omega)]; exact g1
  ·rw [List.getElem?_append_left (by omega)]; exact g2
 have back:∀ {σ' en' H' R' F},PostS K (kF dps) (dps++List.replicate n 0) Ox (cf N vs) H R σ' en' H' R' F→Post K false dps Ox (vs.map some) H (ts.map some) R (msk dps en') H' R' F:=fun {σ' en' H' R' F} P=>by
  have l1:=P.env.l1
  have l2:=P.env.l2
  rw [List.length_append,List.length_replicate] at l2
  refine ⟨⟨fun j u hu=>?_,P.env.dj,P.env.dx,P.env.dom,by rw [lQ (by omega),List.length_map]; exact lv,by rw [List.length_map]; exact lv⟩,P.fx,P.keep,P.own,P.dom,fun z=>nomatch z⟩
  obtain ⟨d,a1,a2,a3⟩:=lR hu
  obtain ⟨v,d',g1,g2,g3⟩:=P.env.at_ j u a3
  have hj:j < dps.length:=(List.getElem?_eq_some_iff.mp a1).1
  have hlk:j∈kF dps:=by
   unfold kF
   rw [List.mem_filter,List.mem_range]
   refine ⟨hj,?_⟩
   rw [a1]
   simpa using a2
  rw [P.lk j hlk,hs,List.getElem?_append_left (by rw [List.length_map]; omega)] at g1
  rw [List.getElem?_append_left hj] at g2
  exact ⟨v,d',g1,g2,g3⟩
 refine ⟨Ox,_,R,fl,e0,h1,?_⟩
 cases fl with
 | nx en2 =>
  cases hf
  exact fun σ2 H2 R2 P2=>k .non H2 R2 NoA (back P2) rfl
 | ct en2=>cases hf
 | rt t en2 =>
  cases hf
  exact fun v σ2 H2 R2 F P2 o=>k v H2 R2 F (back P2) o
theorem Post.slot {F G F':AS} {l:Addr} {o2:HO} (P:Post K p ds1 Ox σ H en R en1 H1 R1 F) (hl:R1 i l) (hi:i < en1.length) (hv:σ[i]?=some (some v)) (hd:ds1[i]?=some d)
  (hg:∀ a,G a→R1 i a∨F a) (hf:∀ a,F' a→R1 i a∨F a) (hx:∀ a,G a→¬ F' a)
  (ho:Ow K (Own (fun j=>if j=i then G else R1 j) (U F' Ox)) (upd H1 l o2) t d v G) :
  Post K false ds1 Ox σ H en R (en1.set i (some t)) (upd H1 l o2) (fun j=>if j=i then G else R1 j) F':=by
 have rc:∀ (j:Nat) a,(if j=i then G else R1 j) a→R1 j a∨(j=i∧F a):=fun j a z=>by
  by_cases hj:j=i
  ·rw [if_pos hj] at z
   rcases hg a z with z | z
   ·exact .inl (hj ▸ z)
   ·exact .inr ⟨hj,z⟩
  ·rw [if_neg hj] at z; exact .inl z
 have sub:∀ a,Own (fun j=>if j=i then G else R1 j) (U F' Ox) a→Own R1 (U F Ox) a:=fun a z=>by
  rcases z with ⟨j,z⟩ | z | z
  ·rcases rc j a z with z | ⟨_,z⟩
   ·exact .inl ⟨j,z⟩
   ·exact .inr (.inl z)
  ·rcases hf a z with z | z
   ·exact .inl ⟨i,z⟩
   ·exact .inr (.inl z)
  ·exact .inr (.inr z)
 have dom2:∀ a o,H1 a=some o→∃ o',upd H1 l o2 a=some o':=fun a o q=>by
  by_cases ha:a=l
  ·subst ha; exact ⟨_,aG⟩
  ·exact ⟨o,by rw [aP ha]; exact q⟩
 have nl:∀ a o,H1 a=some o→a≠l→upd H1 l o2 a=some o:=fun a o q n=>by rw [aP n]; exact q
 refine ⟨⟨fun j u hu=>?_,fun j j' a z z'=>?_,fun j a z z2=>?_,fun a z=>?_,by rw [List.length_set]; exact P.env.l1,P.env.l2⟩,fun a z z2=>?_,fun a o q n=>?_,fun a z=>?_,fun a o q=>?_,fun z=>nomatch z⟩
 ·by_cases hj:j=i
  ·subst hj
   rw [List.getElem?_set_self hi] at hu
   cases hu
   refine ⟨v,d,hv,hd,?_⟩
   rw [if_pos rfl]
   exact ho
  ·rw [List.getElem?_set_ne (Ne.symm hj)] at hu
   obtain ⟨v',d',g1,g2,g3⟩:=P.env.at_ j u hu
   refine ⟨v',d',g1,g2,?_⟩
   rw [if_neg hj]
   refine Ow.mv (G:=R1 j) ⟨fun a o q z=>nl a o q fun za=>?_,fun a z=>.inl (sub a z)⟩ u (fun _ z=>z) g3
   subst za
   rcases z with z | z
   ·exact z (.inl ⟨i,hl⟩)
   ·exact hj (P.env.dj j i a z hl)
 ·have z0:=z
  have z0':=z'
  by_cases hj:j=i <;> by_cases hj':j'=i
  ·rw [hj,hj']
  ·rw [if_pos hj] at z0; rw [if_neg hj'] at z0'
   rcases hg a z0 with z1 | z1
   ·exact absurd (P.env.dj i j' a z1 z0') (fun e=>hj' e.symm)
   ·exact absurd (.inl z1) (P.env.dx j' a z0')
  ·rw [if_neg hj] at z0; rw [if_pos hj'] at z0'
   rcases hg a z0' with z1 | z1
   ·exact absurd (P.env.dj j i a z0 z1) hj
   ·exact absurd (.inl z1) (P.env.dx j a z0)
  ·rw [if_neg hj] at z0; rw [if_neg hj'] at z0'
   exact P.env.dj j j' a z0 z0'
 ·have z0:=z
  by_cases hj:j=i
  ·rw [if_pos hj] at z0
   rcases z2 with z2 | z2
   ·exact hx a z0 z2
   ·rcases hg a z0 with z1 | z1
    ·exact P.env.dx i a z1 (.inr z2)
    ·exact P.fx a z1 z2
  ·rw [if_neg hj] at z0
   rcases z2 with z2 | z2
   ·rcases hf a z2 with z1 | z1
    ·exact hj (P.env.dj j i a z0 z1)
    ·exact P.env.dx j a z0 (.inl z1)
   ·exact P.env.dx j a z0 (.inr z2)
 ·obtain ⟨o,q⟩:=P.env.dom a (sub a z)
  exact dom2 a o q
 ·rcases hf a z with z1 | z1
  ·exact P.env.dx i a z1 (.inr z2)
  ·exact P.fx a z1 z2
 ·refine nl a o (P.keep a o q n) fun za=>?_
  subst za
  rcases P.own a (.inr ⟨i,hl⟩) with ⟨j,z⟩ | z
  ·exact n j z
  ·rw [q] at z; cases z
 ·have:F a∨∃ j,R1 j a:=by
   rcases z with z | ⟨j,z⟩
   ·rcases hf a z with z | z
    ·exact .inr ⟨i,z⟩
    ·exact .inl z
   ·rcases rc j a z with z | ⟨_,z⟩
    ·exact .inr ⟨j,z⟩
    ·exact .inl z
  exact P.own a this
 ·obtain ⟨o',q'⟩:=P.dom a o q
  exact dom2 a o' q'
theorem jc {G F' F:AS} (hg:∀ a,G a→R1 i a∨F a) (hf:∀ a,F' a→R1 i a∨F a):∀ a,Own (fun j=>if j=i then G else R1 j) (U F' Ox) a→Own R1 (U F Ox) a:=fun a z=>by
 rcases z with ⟨j,z⟩ | z | z
 ·by_cases hj:j=i
  ·rw [if_pos hj] at z
   rcases hg a z with z | z
   ·exact .inl ⟨i,z⟩
   ·exact .inr (.inl z)
  ·rw [if_neg hj] at z; exact .inl ⟨j,z⟩
 ·rcases hf a z with z | z
  ·exact .inl ⟨i,z⟩
  ·exact .inr (.inl z)
 ·exact .inr (.inr z)
theorem bf {α:Type} {en:List (Option α)} {i:Nat} {t:α} (h:(en[i]?).join=some t):en[i]?=some (some t):=by
 cases q:en[i]? with
 | none=>rw [q] at h; cases h
 | some o=>rw [q] at h; exact congrArg some h
theorem Ow.sqL {ts:List PyData} {F:AS} (h:Ow K O H (.list ts) d v F):∃ a vs,v=.ref a∧SqL K H a vs:=by
 obtain ⟨a,vs,e,⟨_,h1,_⟩ | ⟨_,h1,_⟩⟩:=h
 ·exact ⟨a,vs,e,h1.sq⟩
 ·exact ⟨a,vs,e,SqL.of h1⟩
theorem Ow.ownL {ts:List PyData} {F:AS} (hd:d≠0) (h:Ow K O H (.list ts) d v F):∃ a vs,v=.ref a∧H a=some (.lst vs)∧F a∧∃ F':AS,(∀ b,F' b→F b∧b≠a)∧Ows K O H ts (dn d) vs F':=by
 obtain ⟨a,vs,e,⟨h0,_⟩ | ⟨_,h1,h2,h3⟩⟩:=h
 ·exact absurd h0 hd
 ·exact ⟨a,vs,e,h1,h2,h3⟩
theorem Ows.past {ts:List PyData} {vs:List V} {F:AS} {l:Addr} {o:HO} (ho:∀ a,O' a→O a) (hl:O l) (hf:∀ b,F b→b≠l) (h:Ows K O H ts d vs F):Ows K O' (upd H l o) ts d vs F :=
 Ows.mv (G:=F) ⟨fun a u q z=>by
  rw [aP]
  ·exact q
  ·intro za
   subst za
   rcases z with z | z
   ·exact z hl
   ·exact hf a z rfl,fun a z=>.inl (ho a z)⟩ ts (fun _ z=>z) h
theorem Ow.past {F:AS} {l:Addr} {o:HO} (ho:∀ a,O' a→O a) (hl:O l) (hf:∀ b,F b→b≠l) (h:Ow K O H t d v F):Ow K O' (upd H l o) t d v F :=
 Ow.mv (G:=F) ⟨fun a u q z=>by
  rw [aP]
  ·exact q
  ·intro za
   subst za
   rcases z with z | z
   ·exact z hl
   ·exact hf a z rfl,fun a z=>.inl (ho a z)⟩ t (fun _ z=>z) h
def ic (i:Nat) (f:ME):ME:=fun en=>match (en[i]?).join with
 | some (.list _)=>(f en).bind fun r=>match (r.2[i]?).join with
  | some (.list ts)=>if ts.length < sizeLine then some (.none,r.2.set i (some (.list (ts++[r.1])))) else none
  | _=>none
 | _=>none
theorem CP {c:Nat} (hd:ds1[i]?=some d) (hz:d≠0) (hc:dn d=c) (h:tF K false ds ds1 3 (ic i f) σ H Q):tBM K "list" lN (fB i) (ix (tF K p ds ds1 c f) jk) σ H Q:=by
 obtain ⟨Ox,en,R,t,en',e,hf,k⟩:=h
 unfold ic at hf
 split at hf
 case h_2=>cases hf
 next ts0 h0 =>
 obtain ⟨⟨t1,en1⟩,h1,hf⟩:=Option.bind_eq_some_iff.mp hf
 dsimp only at hf
 split at hf
 case h_2=>cases hf
 next ts h2 =>
 by_cases hlen:ts.length < sizeLine
 case neg=>rw [if_neg hlen] at hf; cases hf
 rw [if_pos hlen] at hf
 cases hf
 obtain ⟨v,d0,a1,_,a3⟩:=e.at_ i _ (bf h0)
 obtain ⟨l0,vs0,e0,sq⟩:=a3.sqL
 refine ⟨v,a1,?_,Ox,en,R,t1,en1,e,h1,fun x H1 R1 F P o=>?_⟩
 ·rw [e0]; exact .inl ⟨rfl,vs0,sq⟩
 obtain ⟨v',d',b1,b2,b3⟩:=P.env.at_ i _ (bf h2)
 rw [a1] at b1
 cases b1
 rw [hd] at b2
 cases b2
 obtain ⟨l,vs,el,hl,hr,F',hf',ow⟩:=b3.ownL hz
 refine ⟨l,vs,x,el,rfl,hl,by rw [ow.len]; exact hlen,?_⟩
 have hi:i < en1.length:=(List.getElem?_eq_some_iff.mp (bf h2)).1
 have Fn:∀ a,F a→a≠l:=fun a z z2=>by
  subst z2
  exact P.env.dx i a hr (.inl z)
 have sub:=jc (i:=i) (R1:=R1) (Ox:=Ox) (G:=fun a=>R1 i a∨F a) (F':=NoA) (F:=F) (fun _ z=>z) (fun _ z=>z.elim)
 have Ol:Own R1 (U F Ox) l:=.inl ⟨i,hr⟩
 refine k .non (upd H1 l (.lst (vs++[x]))) _ NoA (P.slot (G:=fun a=>R1 i a∨F a) hr hi a1 hd (fun _ z=>z) (fun _ z=>z.elim) (fun _ _ z=>z) ?_) rfl
 refine ⟨l,vs++[x],el,.inr ⟨hz,aG,.inl hr,U F' F,fun b z=>?_,?_⟩⟩
 ·rcases z with z | z
  ·exact ⟨.inl (hf' b z).1,(hf' b z).2⟩
  ·exact ⟨.inr z,Fn b z⟩
 ·refine Ows.snoc (Ows.past sub Ol (fun b z=>(hf' b z).2) ow) ?_ fun b z1 z2=>P.env.dx i b (hf' b z1).1 (.inl z2)
  rw [hc]
  exact Ow.past sub Ol Fn o
theorem Ows.out:∀ {ts:List PyData} {vs:List V} {F:AS} {k:Nat} {t:PyData},Ows K O H ts d vs F→ts[k]?=some t →
  ∃ v,∃ F1 F2:AS,vs[k]?=some v∧(∀ b,F1 b→F b)∧(∀ b,F2 b→F b)∧(∀ b,F1 b→¬ F2 b)∧Ow K O H t d v F1∧Ows K O H (ts.eraseIdx k) d (vs.eraseIdx k) F2
 | [],_,_,k,t,_,h=>by simp at h
 | u :: ts,_,F,k,t,h,hk=>by
  obtain ⟨v,r,F1,F2,e,s1,s2,s3,h4,h5⟩:=h
  subst e
  cases k with
  | zero =>
   have:u=t:=by simpa using hk
   subst this
   exact ⟨v,F1,F2,rfl,s1,s2,s3,h4,h5⟩
  | succ k =>
   obtain ⟨w,G1,G2,g1,g2,g3,g4,g5,g6⟩:=Ows.out (k:=k) h5 (by simpa using hk)
   refine ⟨w,G1,U F1 G2,by simpa using g1,fun b z=>s2 b (g2 b z),fun b z=>z.elim (s1 b) fun z=>s2 b (g3 b z),fun b z z2=>?_,g5,v,r.eraseIdx k,F1,G2,rfl,fun b=>.inl,fun b=>.inr,fun b z1 z2=>s3 b z1 (g3 b z2),h4,g6⟩
   rcases z2 with z2 | z2
   ·exact s3 b z2 (g2 b z)
   ·exact g4 b z z2
def dt (i:Nat) (f:ME):ME:=fun en=>match (en[i]?).join with
 | some (.list _)=>(f en).bind fun r=>match r.1,(r.2[i]?).join with
  | .int n,some (.list ts)=>if -(2 ^ 63)≤n∧n < 2 ^ 63 then (seqIndex? n ts.length).bind fun k=>(ts[k]?).map fun t=>(t,r.2.set i (some (.list (ts.eraseIdx k)))) else none
  | _,_=>none
 | _=>none
theorem xO {c:Nat} (hd:ds1[i]?=some d) (hz:d≠0) (hc:dn d=c) (h:tF K false ds ds1 c (dt i f) σ H Q):tBM K "list" nF (fB i) (ix (tF K p ds ds1 d1 f) jk) σ H Q:=by
 obtain ⟨Ox,en,R,t,en',e,hf,k⟩:=h
 unfold dt at hf
 split at hf
 case h_2=>cases hf
 next ts0 h0 =>
 obtain ⟨⟨t1,en1⟩,h1,hf⟩:=Option.bind_eq_some_iff.mp hf
 dsimp only at hf
 split at hf
 case h_2=>cases hf
 next n ts h2 =>
 by_cases hn:-(2 ^ 63)≤n∧n < 2 ^ 63
 case neg=>rw [if_neg hn] at hf; cases hf
 rw [if_pos hn] at hf
 obtain ⟨kk,h3,hf⟩:=Option.bind_eq_some_iff.mp hf
 obtain ⟨t',h4,hf⟩:=Option.map_eq_some_iff.mp hf
 cases hf
 obtain ⟨v,d0,a1,_,a3⟩:=e.at_ i _ (bf h0)
 obtain ⟨l0,vs0,e0,sq⟩:=a3.sqL
 refine ⟨v,a1,?_,Ox,en,R,.int n,en1,e,h1,fun x H1 R1 F P o=>?_⟩
 ·rw [e0]; exact .inl ⟨rfl,vs0,sq⟩
 obtain ⟨v',d',b1,b2,b3⟩:=P.env.at_ i _ (bf h2)
 rw [a1] at b1
 cases b1
 rw [hd] at b2
 cases b2
 obtain ⟨l,vs,el,hl,hr,F',hf',ow⟩:=b3.ownL hz
 have len:=ow.len
 obtain ⟨w,F1,F2,g1,g2,g3,g4,g5,g6⟩:=ow.out h4
 have ex:x=.int n:=o
 refine ⟨l,vs,n,kk,w,el,by rw [ex],hl,hn.1,hn.2,by rw [len]; exact h3,g1,?_⟩
 have hi:i < en1.length:=(List.getElem?_eq_some_iff.mp (bf h2)).1
 have gG:∀ a,(fun a=>R1 i a∧¬ F1 a) a→R1 i a∨F a:=fun a z=>.inl z.1
 have gF:∀ a,F1 a→R1 i a∨F a:=fun a z=>.inl (hf' a (g2 a z)).1
 have sub:∀ a,Own (fun j=>if j=i then (fun a=>R1 i a∧¬ F1 a) else R1 j) (U F1 Ox) a→Own R1 (U F Ox) a:=fun a z=>jc gG gF a z
 have Ol:Own R1 (U F Ox) l:=.inl ⟨i,hr⟩
 have F1l:¬ F1 l:=fun z=>(hf' l (g2 l z)).2 rfl
 rw [hc] at g5
 refine k w (upd H1 l (.lst (vs.eraseIdx kk))) _ F1 (P.slot (G:=fun a=>R1 i a∧¬ F1 a) hr hi a1 hd gG gF (fun a z z2=>z.2 z2) ?_) (Ow.past sub Ol (fun b z=>(hf' b (g2 b z)).2) g5)
 exact ⟨l,vs.eraseIdx kk,el,.inr ⟨hz,aG,⟨hr,F1l⟩,F2,fun b z=>⟨⟨(hf' b (g3 b z)).1,fun z1=>g4 b z1 z⟩,(hf' b (g3 b z)).2⟩,Ows.past sub Ol (fun b z=>(hf' b (g3 b z)).2) g6⟩⟩
theorem Ows.rev:∀ {ts:List PyData} {vs:List V} {F:AS},Ows K O H ts d vs F→Ows K O H ts.reverse d vs.reverse F
 | [],_,_,h=>by rw [show _=[] from h]; rfl
 | t :: ts,_,F,h=>by
  obtain ⟨v,r,F1,F2,e,s1,s2,s3,h4,h5⟩:=h
  subst e
  rw [List.reverse_cons,List.reverse_cons]
  exact Ows.grow (fun _ z=>z) _ (fun b z=>z.elim (s2 b) (s1 b)) (Ows.snoc h5.rev h4 fun b z1 z2=>s3 b z2 z1)
theorem Ows.setAt:∀ {ts:List PyData} {vs:List V} {F F2:AS} {k:Nat} {t:PyData} {v:V},Ows K O H ts d vs F→Ow K O H t d v F2→(∀ b,F b→¬ F2 b)→Ows K O H (ts.set k t) d (vs.set k v) (U F F2)
 | [],_,_,_,_,_,_,h,_,_=>by rw [show _=[] from h]; rfl
 | u :: ts,_,F,F2,k,t,v,h,h2,hd=>by
  obtain ⟨w,r,G1,G2,e,s1,s2,s3,h4,h5⟩:=h
  subst e
  cases k with
  | zero=>exact ⟨v,r,F2,G2,rfl,fun _ z=>.inr z,fun b z=>.inl (s2 b z),fun b z z2=>hd b (s2 b z2) z,h2,h5⟩
  | succ k =>
   refine ⟨w,r.set k v,G1,U G2 F2,rfl,fun b z=>.inl (s1 b z),fun b z=>z.imp (s2 b) id,fun b z z2=>?_,h4,Ows.setAt h5 h2 fun b z=>hd b (s2 b z)⟩
   rcases z2 with z2 | z2
   ·exact s3 b z z2
   ·exact hd b (s1 b z) z2
def dg (i:Nat) (fk fe:ME):MS:=fun en=>(fe en).bind fun r=>match (r.2[i]?).join with
 | some _=>(fk r.2).bind fun q=>match q.1,(q.2[i]?).join with
  | .int n,some (.list ts)=>(ixN ts.length n).map fun k=>.nx (q.2.set i (some (.list (ts.set k r.1))))
  | _,_=>none
 | none=>none
theorem xq {c:Nat} {fk fe:ME} (hd:ds2[i]?=some d) (hz:d≠0) (hc:dn d=c) (h:tFS K J ds ds2 (dg i fk fe) D σ H) :
  ki (tF K p1 ds ds1 c fe) (Bh (fB i) (tF K p2 ds1 ds2 d2 fk) wc) D σ H:=by
 obtain ⟨Ox,en,R,fl,e,hf,k⟩:=h
 unfold dg at hf
 obtain ⟨⟨t1,en1⟩,h1,hf⟩:=Option.bind_eq_some_iff.mp hf
 dsimp only at hf
 split at hf
 case h_2=>cases hf
 next tt h0 =>
 obtain ⟨⟨t2,en2⟩,h2,hf⟩:=Option.bind_eq_some_iff.mp hf
 dsimp only at hf
 split at hf
 case h_2=>cases hf
 next n ts h3 =>
 obtain ⟨kk,h4,hf⟩:=Option.map_eq_some_iff.mp hf
 cases hf
 refine ⟨Ox,en,R,t1,en1,e,h1,fun x H1 R1 F1 P1 o1=>?_⟩
 obtain ⟨v0,d0,a1,_,_⟩:=P1.env.at_ i tt (bf h0)
 refine ⟨v0,a1,?_⟩
 refine ⟨U F1 Ox,en1,R1,.int n,en2,P1.env,h2,fun y H2 R2 F2 P2 o2=>?_⟩
 have P:=P1.trans P2
 have o1':=Ow.over P1.env P2 o1
 obtain ⟨v',d',b1,b2,b3⟩:=P.env.at_ i _ (bf h3)
 rw [a1] at b1
 cases b1
 rw [hd] at b2
 cases b2
 obtain ⟨l,vs,el,hl,hr,F',hf',ow⟩:=b3.ownL hz
 refine ⟨l,vs,n,kk,el,o2,hl,by rw [ow.len]; exact h4,?_⟩
 have hi:i < en2.length:=(List.getElem?_eq_some_iff.mp (bf h3)).1
 have Fn:∀ a,F1 a→a≠l:=fun a z z2=>by
  subst z2
  exact P.env.dx i a hr (.inl (.inl z))
 have gG:∀ a,(fun a=>R2 i a∨F1 a) a→R2 i a∨U F1 F2 a:=fun a z=>z.imp id .inl
 have sub:=jc (i:=i) (R1:=R2) (Ox:=Ox) (G:=fun a=>R2 i a∨F1 a) (F':=NoA) (F:=U F1 F2) gG (fun _ z=>z.elim)
 have Ol:Own R2 (U (U F1 F2) Ox) l:=.inl ⟨i,hr⟩
 have PS:=P.slot (G:=fun a=>R2 i a∨F1 a) (F':=NoA) (o2:=.lst (vs.set kk x)) (t:=.list (ts.set kk t1)) hr hi a1 hd gG (fun _ z=>z.elim) (fun _ _ z=>z) ?_
 ·exact k σ _ _ PS.s
 refine ⟨l,vs.set kk x,el,.inr ⟨hz,aG,.inl hr,U F' F1,fun b z=>?_,?_⟩⟩
 ·rcases z with z | z
  ·exact ⟨.inl (hf' b z).1,(hf' b z).2⟩
  ·exact ⟨.inr z,Fn b z⟩
 ·refine Ows.setAt (Ows.past sub Ol (fun b z=>(hf' b z).2) ow) ?_ fun b z1 z2=>P.env.dx i b (hf' b z1).1 (.inl (.inl z2))
  rw [hc]
  exact Ow.past sub Ol Fn o1'
theorem Ows.get:∀ {ts:List PyData} {vs:List V} {F:AS} {k:Nat} {t:PyData},Ows K O H ts d vs F→ts[k]?=some t→∃ v,vs[k]?=some v∧Ow K O H t d v F
 | [],_,_,k,t,_,h=>by simp at h
 | u :: ts,_,F,k,t,h,hk=>by
  obtain ⟨v,r,F1,F2,e,s1,s2,s3,h4,h5⟩:=h
  subst e
  cases k with
  | zero =>
   have:u=t:=by simpa using hk
   subst this
   exact ⟨v,rfl,Ow.grow (fun _ z=>z) u s1 h4⟩
  | succ k =>
   obtain ⟨w,g1,g2⟩:=Ows.get (k:=k) h5 (by simpa using hk)
   exact ⟨w,by simpa using g1,Ow.grow (fun _ z=>z) t s2 g2⟩
theorem Ows.atI {ts:List PyData} {vs:List V} {F:AS} {n:Int} {t:PyData} (h:Ows K O H ts d vs F) (ht:L2.atI ts n=some t):∃ v,L2.atI vs n=some v∧Ow K O H t d v F:=by
 unfold L2.atI at ht ⊢
 rw [h.len]
 obtain ⟨k,h1,h2⟩:=Option.bind_eq_some_iff.mp ht
 obtain ⟨v,g1,g2⟩:=h.get h2
 exact ⟨v,by rw [h1]; exact g1,g2⟩
def bM (i:Nat) (f:ME):ME:=fun en=>(en[i]?).join.bind fun _=>(f en).bind fun r=>match r.1,(r.2[i]?).join with
 | .int n,some (.list ts)=>(atI ts n).map fun t=>(t,r.2)
 | _,_=>none
theorem CM (hd:ds1[i]?=some 1) (h:tF K p ds ds1 0 (bM i f) σ H Q):tOp (mx K) (fB i) (tF K p ds ds1 d1 f) σ H Q:=by
 obtain ⟨Ox,en,R,t,en',e,hf,k⟩:=h
 unfold bM at hf
 obtain ⟨t0,h0,hf⟩:=Option.bind_eq_some_iff.mp hf
 obtain ⟨⟨t1,en1⟩,h1,hf⟩:=Option.bind_eq_some_iff.mp hf
 dsimp only at hf
 split at hf
 case h_2=>cases hf
 next n ts h2 =>
 obtain ⟨t',h3,hf⟩:=Option.map_eq_some_iff.mp hf
 cases hf
 obtain ⟨v,d0,a1,_,a3⟩:=e.at_ i _ (bf h0)
 refine ⟨v,a1,Ox,en,R,.int n,_,e,h1,fun x H1 R1 F P o=>?_⟩
 obtain ⟨v',d',b1,b2,b3⟩:=P.env.at_ i _ (bf h2)
 rw [a1] at b1
 cases b1
 rw [hd] at b2
 cases b2
 obtain ⟨l,vs,el,hl,hr,F',hf',ow⟩:=b3.ownL (by decide)
 obtain ⟨w,g1,g2⟩:=ow.atI h3
 refine ⟨l,vs,n,w,el,o,SqL.of hl,g1,k w H1 R1 NoA (P.less fun _ z=>z.elim) ?_⟩
 exact Ow.any0 _ (Ow.grow (fun a z=>z.imp id fun z=>z.elim (fun z=>False.elim z) Or.inr) _ (fun _ z=>z) g2)
end
end L2
namespace L2
open PySem PySem.Spec PyProof.Rows
theorem PE.imp {X:Cx} {e:Expr} {t t':TE} (h:PE X e t) (hi:∀ σ H Q,t' σ H Q→t σ H Q):PE X e t':=fun pins s σ H Q I hw=>h pins s σ H Q I (hi _ _ _ hw)
theorem PT.imp {X:Cx} {e:Expr} {t t':TT} (h:PT X e t) (hi:∀ σ H Q,t' σ H Q→t σ H Q):PT X e t':=fun pins s σ H Q I hw=>h pins s σ H Q I (hi _ _ _ hw)
theorem PW.imp {X:Cx} {e:Expr} {t t':TT} (h:PW X e t) (hi:∀ σ H Q,t' σ H Q→t σ H Q):PW X e t':=fun wh pins s σ H Q I hw=>h wh pins s σ H Q I (hi _ _ _ hw)
theorem PA.imp {X:Cx} {e:List Expr} {t t':TA} (h:PA X e t) (hi:∀ σ H Q,t' σ H Q→t σ H Q):PA X e t':=fun pos pins s σ H Q I hw=>h pos pins s σ H Q I (hi _ _ _ hw)
theorem PS.imp {X:Cx} {e:Stmt} {t t':TS} (h:PS X e t) (hi:∀ D σ H,t' D σ H→t D σ H):PS X e t':=fun pins s σ H D I hw=>h pins s σ H D I (hi _ _ _ hw)
theorem PSs.imp {X:Cx} {e:List Stmt} {t t':TS} (h:PSs X e t) (hi:∀ D σ H,t' D σ H→t D σ H):PSs X e t':=fun pins s σ H D I hw=>h pins s σ H D I (hi _ _ _ hw)
theorem PG.imp {X:Cx} {e:Expr} {t t':TG} (h:PG X e t) (hi:∀ v σ H Q,t' v σ H Q→t v σ H Q):PG X e t':=fun pins s σ H v u Q I r hw=>h pins s σ H v u Q I r (hi _ _ _ _ hw)
theorem PI.imp {X:Cx} {tg e:Expr} {t t':TI} (h:PI X tg e t) (hi:∀ σ H R,t' σ H R→t σ H R):PI X tg e t':=fun pins s σ H R I hw=>h pins s σ H R I (hi _ _ _ hw)
theorem PTs.imp {X:Cx} {e:List Expr} {t t':TT} (h:PTs X e t) (hi:∀ σ H Q,t' σ H Q→t σ H Q):PTs X e t':=fun pins s σ H Q I hw=>h pins s σ H Q I (hi _ _ _ hw)
def aK:Expr→Bool
 | .Starred _ _=>false
 | _=>true
theorem bn {e:Expr} {es:List Expr} {env:Env} (h:aK e=true):starEach (e :: es) env=(false,eval e env) :: starEach es env:=by
 cases e <;> first | rfl | cases h
theorem dN {pos:Pos} {env:Env}:∀ {es:List Expr},es.all aK=true→(backTo pos (starEach es env)).any (·.1)=false
 | [],_=>rfl
 | e :: es,h=>by
  rw [List.all_cons,Bool.and_eq_true] at h
  rw [bn h.1]
  show (false || (backTo pos (starEach es env)).any (·.1))=false
  rw [dN h.2]
  rfl
section
variable {X:Cx} {K:PySem.W.Frag} {p p1 p2 q:Bool} {ds ds0 ds1 ds2 ds' dsi:List Nat} {d d' d1 d2:Nat} {a b c e:Expr} {es:List Expr} {f f1 f2:ME} {m c1 c2:MT} {fa:MA} {sh:Sh} {pos:Pos} {i:Nat} {x:Str}
theorem Bz {x:Str} (hN:X.N[i]?=some x) (hv:Vis X.env.scope x) (h0:ds[i]?=some 0) (hd:(x == ("__debug__" : Str))=false) (hcd:(x == ("__classdict__" : Str))=false):PE X (.Name x pos) (tF K p ds ds 0 (ae i)) :=
 (dP hN hv hd hcd).imp fun _ _ _ h=>CH h0 (eB (fun _=>rfl) h)
theorem BJ {n:Int} {j}:PE X (.Constant (.int n) j pos) (tF K p ds ds 3 (eC (.int n))):=pe_int.imp fun _ _ _ h=>f_c (t:=.int n) (fun _ _ _ _=>rfl) (eB (fun _=>rfl) h)
theorem CG {n:Bool} {j}:PE X (.Constant (.bool n) j pos) (tF K p ds ds 3 (eC (.bool n))):=pe_bl.imp fun _ _ _ h=>f_c (t:=.bool n) (fun _ _ _ _=>rfl) (eB (fun _=>rfl) h)
theorem BE {j}:PE X (.Constant .none j pos) (tF K p ds ds 3 (eC .none)):=pe_non.imp fun _ _ _ h=>f_c (t:=.none) (fun _ _ _ _=>rfl) (eB (fun _=>rfl) h)
theorem BC {n:Str} {j}:PE X (.Constant (.str n) j pos) (tF K p ds ds 3 (eC (.str n))):=pe_str.imp fun _ _ _ h=>f_c (t:=.str n) (fun _ _ _ _=>rfl) (eB (fun _=>rfl) h)
theorem qa {x:Str} {n:Int} {t:Tok} (hg:Gl X x) (hm:X.mg x=some (.int n t)) (hd:(x == ("__debug__" : Str))=false):PE X (.Name x pos) (tF K p ds ds 3 (eC (.int n))) :=
 (wT (v:=.int n) hg hm ⟨t,rfl⟩ hd).imp fun _ _ _ h=>f_c (t:=.int n) (fun _ _ _ _=>rfl) (eB (fun _=>rfl) h)
theorem BB (h:PE X e (tF K p ds ds' d f)) (hd:d'≤d):PE X e (tF K p ds ds' d' f):=h.imp fun _ _ _=>CJ hd
theorem CD (h:PE X e (tF K p ds0 ds' d f)) (hd:leD ds0 ds=true):PE X e (tF K false ds ds' d f):=h.imp fun _ _ _=>Dc hd
theorem BN (h:PE X e (tF K true ds0 ds0 3 f)) (hd:leD ds0 ds=true):PE X e (tF K p ds ds 3 f):=h.imp fun _ _ _ h=>CO hd (eB (fun _=>rfl) h)
theorem CA {op:Operator} {g:D→D→Option D} (ho:OpR X (binaryOp op) (rF2 K g d)) (ha:PE X a (tF K p ds ds1 d1 f1)) (hb:PE X b (tF K p ds1 ds2 d2 f2)):PE X (.BinOp a op b pos) (tF K p ds ds2 d (e2 g f1 f2)) :=
 (Cm ho ha hb).imp fun _ _ _ h=>gQ (by rw [Bool.and_self]; exact h)
theorem Cz {op:UnaryOp} {g:D→Option D} (ho:UnR X (unaryOp op) (rF1 K g d)) (ha:PE X a (tF K p ds ds1 d1 f1)):PE X (.UnaryOp op a pos) (tF K p ds ds1 d (e1 g f1)) :=
 (Cl ho ha).imp fun _ _ _=>CK
theorem BM {op:CmpOp} {g:D→D→Option D} (ho:OpR X (compareOp op) (rF2 K g d)) (ha:PE X a (tF K p ds ds1 d1 f1)) (hb:PE X b (tF K p ds1 ds2 d2 f2)) (hm:behindInMarks op b=false):PE X (.Compare a [op] [b] pos) (tF K p ds ds2 d (e2 g f1 f2)) :=
 (wU ho ha hb hm).imp fun _ _ _ h=>gQ (by rw [Bool.and_self]; exact h)
theorem xl {op:CmpOp} {g:D→D→Option D} (ho:OpR X (compareOp op) (rF2 K g d)) (ha:PE X a (tF K p ds ds1 d1 f1)) (hb:PE X b (tF K p ds1 ds2 d2 f2)) (hm:behindInMarks op b=false):PT X (.Compare a [op] [b] pos) (tFT K p ds ds2 (tV (e2 g f1 f2))) :=
 (wK ho ha hb hm).imp fun σ H Q h=>by
  obtain ⟨Ox,en,R,t,en',e,hf,k⟩:=iT (d:=d) h
  exact gQ (by rw [Bool.and_self]; exact ⟨Ox,en,R,t,en',e,hf,k⟩)
theorem xj (h:PE X e (tF K p ds ds' d f)) (he:∀ whole,isTrue e X.env whole=(do let v ← whole; standAt e.pos; holding [v] (truthy v))):PT X e (tFT K p ds ds' (tV f)):=(AC h he).imp fun _ _ _=>iT
theorem xg (ha:PT X a (tFT K p ds ds1 c1)):PW X (.BoolOp .And [a] pos) (tFT K p ds ds1 c1):=wI ha
theorem Bi (ha:PT X a (tFT K p ds ds1 c1)):PW X (.BoolOp .Or [a] pos) (tFT K p ds ds1 c1):=Az ha
theorem Bj {rest:List Expr} (ha:PT X a (tFT K p ds ds1 c1)) (hb:PW X (.BoolOp .And (b :: rest) pos) (tFT K p ds1 ds1 c2)):PW X (.BoolOp .And (a :: b :: rest) pos) (tFT K p ds ds1 (dW c1 c2)):=(AA ha hb).imp fun _ _ _ h=>Bo (by rw [Bool.and_self]; exact h)
theorem Cs {rest:List Expr} (ha:PT X a (tFT K p ds ds1 c1)) (hb:PW X (.BoolOp .Or (b :: rest) pos) (tFT K p ds1 ds1 c2)):PW X (.BoolOp .Or (a :: b :: rest) pos) (tFT K p ds ds1 (bOr c1 c2)):=(Ch ha hb).imp fun _ _ _ h=>Ct (by rw [Bool.and_self]; exact h)
theorem xk (ha:PT X a (tFT K p ds ds1 c1)):PT X (.UnaryOp .Not a pos) (tFT K p ds ds1 (cU c1)):=(AD ha).imp fun _ _ _=>Bk
theorem xm (h:PT X e (tFT K true ds0 ds0 c1)) (hd:leD ds0 ds=true):PT X e (tFT K p ds ds c1):=h.imp fun _ _ _ ⟨Ox,en,R,t,en',e,hf,k⟩=>Bn hd ⟨Ox,en,R,t,en',e,hf,fun H' R' P=>k H' R' ⟨P.env,P.fx,P.keep,P.own,P.dom,fun _=>P.pure rfl⟩⟩
theorem BD {op} (h:PE X a (tF K p ds ds1 d f)):PE X (.BoolOp op [a] pos) (tF K p ds ds1 d f):=AM h
theorem BP {rest:List Expr} (ha:PE X a (tF K p ds ds1 d1 f1)) (hb:PE X (.BoolOp .And (b :: rest) pos) (tF K p ds1 ds1 d f2)):PE X (.BoolOp .And (a :: b :: rest) pos) (tF K p ds ds1 d (ie f1 f2)):=(AQ ha hb).imp fun _ _ _ h=>CQ (by rw [Bool.and_self]; exact h)
theorem xM:PA X [] (tFA K p ds ds [] ah):=pa_nil.imp fun _ _ _ ⟨Ox,en,R,t,en',e,hf,k⟩=>oJ ⟨Ox,en,R,t,en',e,hf,fun vs H' R' F P=>k vs H' R' F ⟨P.env,P.fx,P.keep,P.own,P.dom,fun _=>P.pure rfl⟩⟩
theorem qi (ha:PE X e (tF K p ds ds1 d f)) (hr:PA X es (tFA K p ds1 ds2 sh fa)) (hs:aK e=true):PA X (e :: es) (tFA K p ds ds2 (.inl d :: sh) (ad f fa)):=(cN ha hr (bn hs)).imp fun _ _ _ h=>xN (by rw [Bool.and_self]; exact h)
theorem qh {x:Str} (hN:X.N[i]?=some x) (hv:Vis X.env.scope x) (hr:PA X es (tFA K p ds ds2 sh fa)) (hd:(x == ("__debug__" : Str))=false) (hcd:(x == ("__classdict__" : Str))=false) :
  PA X (.Name x pos :: es) (tFA K p ds ds2 (.inr i :: sh) (bx i fa)):=(cN (dP hN hv hd hcd) hr (bn rfl)).imp fun _ _ _=>xL
theorem BF {c:Nat} (h:PA X es (tFA K p ds ds1 sh fa)) (hs:bE c sh=true) (hd:dn d=c) (hz:d≠0):PE X (.List es pos) (tF K p ds ds1 d (aZ fa)):=(AN h).imp fun _ _ _=>CL hs hd hz
theorem BA {c:Nat} {x1} (h:PA X es (tFA K p ds ds1 sh fa)) (hs:bE c sh=true) (hd:dn d=c):PE X (.Tuple es x1 pos) (tF K p ds ds1 d (a5 fa)):=(AL h).imp fun _ _ _=>CI hs hd
theorem qf {id:String} {x:Str} {px:Pos} {g:List D→Option D} (hc:CallR X (.builtin id) (rFn K g d)) (hg:Gl X x) (hm:X.mg x=none) (hv:bootBuiltins x=some (.builtin id)) (ha:PA X (e :: es) (tFA K p ds ds1 sh fa)) (hsh:bE 0 sh=true) (hn:x≠"__name__") (hdb:(x == ("__debug__" : Str))=false)
  (he:aK e=true) (hpl:es.all aK=true):PE X (.Call (.Name x px) (e :: es) [] pos) (tF K p ds ds1 d (eN g fa)) :=
 (hZ hc hg hm hv ha hn hdb (bn he) (dN hpl)).imp fun _ _ _=>oK hsh
theorem oI {T:String} {x:Str} {px:Pos} {g:List D→Option D} (hc:CallR X (.type T) (rFn K g d)) (hg:Gl X x) (hm:X.mg x=none) (hv:bootBuiltins x=some (.type T)) (ha:PA X (e :: es) (tFA K p ds ds1 sh fa)) (hsh:bE 0 sh=true) (hn:x≠"__name__") (hdb:(x == ("__debug__" : Str))=false)
  (he:aK e=true) (hpl:es.all aK=true):PE X (.Call (.Name x px) (e :: es) [] pos) (tF K p ds ds1 d (eN g fa)) :=
 (jA hc hg hm hv ha hn hdb (bn he) (dN hpl)).imp fun _ _ _=>oK hsh
theorem CF {k:Nat} {x:Str} {ps:List Str} {px:Pos} {dps:List Nat} {dr:Nat} {F:List D→Option (D × En)} (G:Kn X.prog X.w X.K X.mg X.base k x ps (spF K dps dr F)) (hr:Room k X.A) (hg:Gl X x) (ha:PA X (e :: es) (tFA K p ds ds1 sh fa)) (hns:e9 sh=true) (hcd:dh ds1 sh dps=true) (hdb:(x == ("__debug__" : Str))=false)
  (he:aK e=true) (hpl:es.all aK=true) :
  PE X (.Call (.Name x px) (e :: es) [] pos) (tF K p ds ds1 dr (aO F fa)):=(wg G hr hg ha hdb (bn he) (dN hpl)).imp fun _ _ _ h=>qk hcd (by rw [hns,Bool.and_true]; exact h)
theorem BK {k:Nat} {x:Str} {ps:List Str} {px:Pos} {dps:List Nat} {dr:Nat} {F:List D→Option (D × En)} (G:Kn X.prog X.w X.K X.mg X.base k x ps (spF K dps dr F)) (hr:Room k X.A) (hg:Gl X x) (ha:PA X (e :: es) (tFA K false ds ds1 sh fa)) (hcd:dh ds1 sh dps=true) (hdb:(x == ("__debug__" : Str))=false)
  (he:aK e=true) (hpl:es.all aK=true) :
  PE X (.Call (.Name x px) (e :: es) [] pos) (tF K false ds ds1 dr (aO F fa)):=(wg G hr hg ha hdb (bn he) (dN hpl)).imp fun _ _ _ h=>qk hcd h
theorem BL {k:Nat} {x:Str} {ps:List Str} {px:Pos} {dr:Nat} {F:List D→Option (D × En)} (G:Kn X.prog X.w X.K X.mg X.base k x ps (spF K [] dr F)) (hr:Room k X.A) (hg:Gl X x) (hdb:(x == ("__debug__" : Str))=false) :
  PE X (.Call (.Name x px) [] [] pos) (tF K p ds ds dr (aO F ah)):=(AO G hr hg hdb).imp fun σ H Q h=>by
 have h2:=qk (E:=E0) (sh:=[]) (ds1:=ds) (dps:=[]) (p:=true) rfl (eB (fun _=>rfl) h)
 exact oJ h2
theorem CC {g:D→D→Option D} (ho:IxR X (rF2 K g d)) (ha:PE X a (tF K p ds ds1 d1 f1)) (hb:PE X b (tF K p ds1 ds2 d2 f2)) (hs:fr b):PE X (.Subscript a b pos) (tF K p ds ds2 d (e2 g f1 f2)) :=
 (wf ho ha hb hs).imp fun _ _ _ h=>gQ (by rw [Bool.and_self]; exact h)
theorem BH {x:Str} {px:Pos} (hK:X.K=K) (hN:X.N[i]?=some x) (hv:Vis X.env.scope x) (h1:ds1[i]?=some 1) (hb:PE X b (tF K p ds ds1 d1 f)) (hs:fr b) (hd:(x == ("__debug__" : Str))=false) (hcd:(x == ("__classdict__" : Str))=false) :
  PE X (.Subscript (.Name x px) b pos) (tF K p ds ds1 0 (bM i f)):=(wf (C9 hK) (dP hN hv hd hcd) hb hs).imp fun _ _ _=>CM h1
theorem BO {c:Nat} {x:Str} {px apos cpos:Pos} (hK:X.K=K) (hN:X.N[i]?=some x) (hv:Vis X.env.scope x) (h1:ds1[i]?=some d) (he:PE X e (tF K false ds ds1 c f)) (hz:d≠0) (hc:dn d=c)
  (hd:(x == ("__debug__" : Str))=false) (hcd:(x == ("__classdict__" : Str))=false)
  (hbase:attributeBase (.Name x px) "append" X.env (eval (.Name x px) X.env)=eval (.Name x px) X.env)
  (hfew:((backTo cpos (starEach [e] X.env)).all (fun x=>!x.1) && (backToKw cpos (keywordEach [] X.env)).all (fun x=>x.1.isSome) && decide (([e]:List Expr).length+([]:List Keyword).length+(if ([]:List Keyword).isEmpty then 0 else 1) < 30))=true)
  (hline:(apos.endLine == cpos.line)=true) (hs:starEach [e] X.env=[(false,eval e X.env)]) (hplain:(backTo cpos (starEach [] X.env)).any (·.1)=false) :
  PE X (.Call (.Attribute (.Name x px) "append" apos) [e] [] cpos) (tF K false ds ds1 3 (ic i f)):=by
 subst hK
 exact (mB PySem.F.plainAttrs_list PySem.F.slot_list_append PySem.F.type_list_append jC (dP hN hv hd hcd) (cN he pa_nil hs) hbase hfew hline hs hplain).imp fun _ _ _=>CP h1 hz hc
theorem p8 {c:Nat} {x:Str} {px apos cpos:Pos} (hK:X.K=K) (hN:X.N[i]?=some x) (hv:Vis X.env.scope x) (h1:ds1[i]?=some d) (he:PE X e (tF K false ds ds1 d1 f)) (hz:d≠0) (hc:dn d=c)
  (hd:(x == ("__debug__" : Str))=false) (hcd:(x == ("__classdict__" : Str))=false)
  (hbase:attributeBase (.Name x px) "pop" X.env (eval (.Name x px) X.env)=eval (.Name x px) X.env)
  (hfew:((backTo cpos (starEach [e] X.env)).all (fun x=>!x.1) && (backToKw cpos (keywordEach [] X.env)).all (fun x=>x.1.isSome) && decide (([e]:List Expr).length+([]:List Keyword).length+(if ([]:List Keyword).isEmpty then 0 else 1) < 30))=true)
  (hline:(apos.endLine == cpos.line)=true) (hs:starEach [e] X.env=[(false,eval e X.env)]) (hplain:(backTo cpos (starEach [] X.env)).any (·.1)=false) :
  PE X (.Call (.Attribute (.Name x px) "pop" apos) [e] [] cpos) (tF K false ds ds1 c (dt i f)):=by
 subst hK
 exact (mB PySem.F.plainAttrs_list PySem.F.slot_list_pop PySem.F.type_list_pop pF (dP hN hv hd hcd) (cN he pa_nil hs) hbase hfew hline hs hplain).imp fun _ _ _=>xO h1 hz hc
def cY:MT:=fun en=>some (true,en)
theorem xi:PTs X [] (tFT K p ds ds cY):=pts_nil.imp fun σ H Q ⟨Ox,en,R,b,en',e,hf,k⟩=>by
 cases hf
 exact k H R (Post.refl e)
theorem xh (hc:PT X c (tFT K p ds ds1 c1)):PTs X [c] (tFT K p ds ds1 c1):=wJ hc
theorem CB {elt tg iter:Expr} {ifs:List Expr} {scope:Scope} {ns:List Str} {js:List (Option Nat)} {fi:MI} {g:MG} {lk:List Nat} {cd:Nat} (B:BlkOkC X scope ns js) (hc:X.calm=true) (hi:PI X tg iter (tFI K p ds ds1 fi))
  (hg:∀ C cl s₀ H₀ fp,PG (aF X scope ns C cl s₀ H₀ fp) tg (tFG K lk dsi dsi g)) (ht:∀ C cl s₀ H₀ fp,PTs (aF X scope ns C cl s₀ H₀ fp) ifs (tFT K true dsi dsi c1)) (he:∀ C cl s₀ H₀ fp,PE (aF X scope ns C cl s₀ H₀ fp) elt (tF K true dsi dsi cd f))
  (hcap:dC ds1 js dsi=true) (hd:dn d=cd) (hz:d≠0) (hlk:lk=dB js 0)
  (hs:∀ x,foldedSetIterable iter X.env x=pure x):PE X (.ListComp elt [⟨tg,iter,ifs,0⟩] scope pos) (tF K p ds ds1 d (eLC true fi g c1 f js)) :=
 (nJ B hc hi hg ht he hs).imp fun _ _ _ h=>qj hcap hd hz hlk (by rw [Bool.and_true]; exact h)
theorem BG {elt tg iter:Expr} {ifs:List Expr} {scope:Scope} {ns:List Str} {js:List (Option Nat)} {fi:MI} {g:MG} {lk:List Nat} {cd:Nat} (B:BlkOkC X scope ns js) (hc:X.calm=true) (hi:PI X tg iter (tFI K false ds ds1 fi))
  (hg:∀ C cl s₀ H₀ fp,PG (aF X scope ns C cl s₀ H₀ fp) tg (tFG K lk dsi dsi g)) (ht:∀ C cl s₀ H₀ fp,PTs (aF X scope ns C cl s₀ H₀ fp) ifs (tFT K false dsi dsi c1)) (he:∀ C cl s₀ H₀ fp,PE (aF X scope ns C cl s₀ H₀ fp) elt (tF K false dsi dsi cd f))
  (hcap:dC ds1 js dsi=true) (hd:dn d=cd) (hz:d≠0) (hlk:lk=dB js 0)
  (hs:∀ x,foldedSetIterable iter X.env x=pure x):PE X (.ListComp elt [⟨tg,iter,ifs,0⟩] scope pos) (tF K false ds ds1 d (eLC false fi g c1 f js)) :=
 (nJ B hc hi hg ht he hs).imp fun _ _ _ h=>qj hcap hd hz hlk h
end
end L2
namespace L2
open PySem PySem.Spec PyProof.Rows
def DF (f:ME) (g:MG):MS:=fun en=>(f en).bind fun r=>(g r.1 r.2).map .nx
section
variable {K:PySem.W.Frag} {p p1 p2 q:Bool} {J:Jd} {ds ds0 ds1 ds2 ds' dsi dps:List Nat} {d d' d1 d2 dr:Nat} {f f1 f2 fk fe:ME} {c1 c2:MT} {fa:MA} {sh:Sh} {i:Nat} {m m1 m2:MS} {g:MG} {lk:List Nat} {σ:St} {H:Hp} {Dn:Ends}
end
section
variable {X:Cx} {K:PySem.W.Frag} {p p1 p2 q:Bool} {J:Jd} {ds ds0 ds1 ds2 ds' dsi dps:List Nat} {d d' d1 d2 dr:Nat} {a b c e tg iter:Expr} {es:List Expr} {st:Stmt} {rest body bodyB:List Stmt} {f f1 f2 fk fe:ME} {c1 c2:MT} {fa:MA} {sh:Sh} {pos px:Pos} {i:Nat} {x:Str} {m m1 m2:MS} {g:MG} {gs:List D→En→Option En} {fi:MI} {lk:List Nat}
theorem xp:PSs X [] (tFS K J ds ds bQ):=pss_nil.imp fun _ _ _=>Br
theorem pY (h1:PS X st (tFS K J ds ds1 m1)) (h2:PSs X rest (tFS K J ds1 ds2 m2)):PSs X (st :: rest) (tFS K J ds ds2 (au m1 m2)):=(pp h1 h2).imp fun _ _ _=>Bp
theorem xo (h1:PS X st (tFS K J ds ds1 m1)):PSs X [st] (tFS K J ds ds1 m1):=wL h1
theorem xn (h:PSs X rest (tFS K J ds ds2 m)) (hd:leD ds1 ds2=true):PSs X rest (tFS K J ds ds1 m):=h.imp fun _ _ _=>oz hd
theorem xx (he:PE X e (tF K false ds ds1 d f)) (hs:swapsWith e none pos.line X.env=pure false):PS X (.Expr e pos) (tFS K J ds ds1 (jl f)):=(wM he hs).imp fun _ _ _=>Bt
theorem xv (he:PE X e (tF K false ds ds1 J.dr f)) (hd:leD J.dsr ds1=true):PS X (.Return (some e) pos) (tFS K J ds ds' (aR f)):=(AG he).imp fun _ _ _=>Bq hd
theorem Bu (hc:PT X c (tFT K false ds ds1 c1)) (ha:PSs X body (tFS K J ds1 ds2 m1)) (hb:PSs X bodyB (tFS K J ds1 ds2 m2)):PS X (.If c body bodyB pos) (tFS K J ds ds2 (sIf c1 m1 m2)):=(Cj hc ha hb).imp fun _ _ _=>Cu
theorem xu {x:Str} {pos':Pos} (hN:X.N.Nodup) (hi:X.N[i]?=some x) (hx:Loc X.env.scope x) (he:PE X e (tF K false ds ds1 d f)) (hds:ds1.set i d=ds') (hl:i < ds1.length) (hk:i ∉ J.lk)
  (hs:swapsWith e (some (.Name x pos')) pos.line X.env=pure false) (hf:X.fn x=true∨X.env.scope.names.lookup x=some .local) :
  PS X (.Assign [.Name x pos'] e pos) (tFS K J ds ds' (aC i f)):=by
 subst hds
 exact (AF hN hi hx he hs hf).imp fun _ _ _=>oA hl hk
theorem oC {x:Str} {spos pos':Pos} {elt:Expr} {ifs:List Expr} {scope:Scope} {ns:List Str} {js:List (Option Nat)} {cd:Nat} (hN:X.N.Nodup) (hi':X.N[i]?=some x) (hx:X.env.scope.names.lookup x=some .local) (B:BlkOkC X scope ns js) (hc:X.calm=true) (hi:PI X tg iter (tFI K false ds ds1 fi))
  (hg:∀ C cl s₀ H₀ fp,PG (aF X scope ns C cl s₀ H₀ fp) tg (tFG K lk dsi dsi g)) (ht:∀ C cl s₀ H₀ fp,PTs (aF X scope ns C cl s₀ H₀ fp) ifs (tFT K q dsi dsi c1)) (he:∀ C cl s₀ H₀ fp,PE (aF X scope ns C cl s₀ H₀ fp) elt (tF K q dsi dsi cd f))
  (hds:ds1.set i d=ds') (hcap:dC ds1 js dsi=true) (hd:dn d=cd) (hz:d≠0) (hlk:lk=dB js 0) (hl:i < ds1.length) (hk:i ∉ J.lk)
  (hsw:swapsWith (.ListComp elt [⟨tg,iter,ifs,0⟩] scope pos) (some (.Name x pos')) spos.line X.env=pure true)
  (hs:∀ x,foldedSetIterable iter X.env x=pure x):PS X (.Assign [.Name x pos'] (.ListComp elt [⟨tg,iter,ifs,0⟩] scope pos) spos) (tFS K J ds ds' (aC i (eLC q fi g c1 f js))):=by
 subst hds
 exact (nG hN hi' hx B hc hi hg ht he hsw hs).imp fun D σ H h=>qj (p:=false) hcap hd hz hlk (oA (p:=false && q) hl hk h)
theorem pZ {c:Nat} {x:Str} {spos:Pos} {k:Expr} (hN:X.N[i]?=some x) (hv:Vis X.env.scope x) (he:PE X e (tF K false ds ds1 c fe)) (hk:PE X k (tF K false ds1 ds2 d2 fk)) (h1:ds2[i]?=some d) (hz:d≠0) (hc:dn d=c)
  (hdb:(x == ("__debug__" : Str))=false) (hcd:(x == ("__classdict__" : Str))=false)
  (ha:∀ v,assign (.Subscript (.Name x px) k spos) X.env v=(do
   let ov ← holding [v] (eval (.Name x px) X.env)
   let iv ← holding [v,ov] (eval k X.env)
   standAt spos
   holding [v,ov,iv] (setItem ov iv v)
   release [v,ov,iv] []))
  (hs:swapsWithSole [.Subscript (.Name x px) k spos] e pos.line X.env=pure false) (hw:swappedStores [.Subscript (.Name x px) k spos] e X.env=pure none)
  (h2:(assignEach [.Subscript (.Name x px) k spos] X.env).map (·.2)=[assign (.Subscript (.Name x px) k spos) X.env]) :
  PS X (.Assign [.Subscript (.Name x px) k spos] e pos) (tFS K J ds ds2 (dg i fk fe)) :=
 (AI he (AK (dP hN hv hdb hcd) hk pi ha) hs hw h2).imp fun _ _ _=>xq h1 hz hc
theorem p6 {x:Str} (hN:X.N.Nodup) (hi:X.N[i]?=some x) (hx:Loc X.env.scope x) (hds:ds.set i 0=ds') (hl:i < ds.length) (hk:i ∉ lk) (hf:X.fn x=true∨X.env.scope.names.lookup x=some .local) :
  PG X (.Name x pos) (tFG K lk ds ds' (gN i)):=by
 subst hds
 exact (wR hN hi hx hf).imp fun _ _ _ _=>xF hl hk
theorem xw (hc:X.calm=true) (hi:PI X tg iter (tFI K false ds ds1 fi)) (hg:PG X tg (tFG K J.lk ds1 ds2 g)) (hb:PSs X body (tFS K { J with dsl:=ds1 } ds2 ds1 m)) (hp:PassesOwn (model X.prog X.w) X.A X.env X.xe)
  (hs:∀ x,foldedSetIterable iter X.env x=pure x):PS X (.For tg iter body [] pos) (tFS K J ds ds1 (dw fi g m)):=(AH hp hc hi hg hb hs).imp fun _ _ _=>Bs
end
def v8:D→Option (List D)
 | .list ts=>some ts
 | .tuple ts=>some ts
 | .str z=>some ((li z).map fun c=>.str (mk1 c))
 | _=>none
def cJ (f:ME):MI:=fun en=>(f en).bind fun r=>(v8 r.1).map fun ts=>(ts,r.2)
section
variable {K:PySem.W.Frag} {O O1:AS} {H0 H:Hp} {ts:List D} {vs:List V} {a:Addr} {F:AS}
theorem gD {O O1:AS} (h1:∀ a o,H0 a=some o→¬ O a→H a=some o) (h2:∀ a,O1 a→O a∨H0 a=none):Mv O O1 NoA H0 H:=⟨fun a o q z=>z.elim (h1 a o q) fun z=>z.elim,h2⟩
theorem nr (h:FzL K O H0 a vs) (ho:Ows K O H0 ts 0 vs NoA):lj K O H0 (Itl K a) ts:=fun i H O1 h1 h2 h3=>by
 have sq:=(h.mv (gD h1 h2)).sq
 refine ⟨fun t ht=>?_,fun hl=>⟨vs,sq,by rw [ho.len]; omega⟩⟩
 obtain ⟨v,hv,ov⟩:=ho.get ht
 refine ⟨⟨vs,v,sq,hv⟩,fun x H1 ⟨e,y⟩=>?_⟩
 subst e
 have e2:=y vs sq
 rw [hv] at e2
 cases e2
 exact ⟨fun _ _ q=>q,Ow.mv (gD h1 h2) t (fun _ z=>z) ov⟩
theorem o8 (h:FzT K O H0 a vs) (ho:Ows K O H0 ts 0 vs NoA):lj K O H0 (Itt K a) ts:=fun i H O1 h1 h2 h3=>by
 have sq:=(h.mv (gD h1 h2)).sq
 refine ⟨fun t ht=>?_,fun hl=>⟨vs,sq,by rw [ho.len]; omega⟩⟩
 obtain ⟨v,hv,ov⟩:=ho.get ht
 refine ⟨⟨vs,v,sq,hv⟩,fun x H1 ⟨e,y⟩=>?_⟩
 subst e
 have e2:=y vs sq
 rw [hv] at e2
 cases e2
 exact ⟨fun _ _ q=>q,Ow.mv (gD h1 h2) t (fun _ z=>z) ov⟩
theorem o9 {z:Str}:lj K O H0 (Its z) ((li z).map fun c=>.str (mk1 c)):=fun i H O1 h1 h2 h3=>by
 refine ⟨fun t ht=>?_,fun hl=>?_⟩
 ·rw [List.getElem?_map] at ht
  obtain ⟨c,hc,e⟩:=Option.map_eq_some_iff.mp ht
  have hi:i < z.cps.size:=by
   have:=(List.getElem?_eq_some_iff.mp hc).1
   simpa [li] using this
  have hc':z.cps[i]?=some c:=by
   have:z.cps.toList[i]?=some c:=hc
   simpa using this
  refine ⟨hi,fun x H1 ⟨e1,c',e2,e3⟩=>?_⟩
  subst e1 e e3
  rw [hc'] at e2
  cases e2
  exact ⟨fun _ _ q=>q,rfl⟩
 ·have:z.cps.size=i:=by
   rw [List.length_map] at hl
   simpa [li] using hl
  show z.cps.size≤i
  omega
theorem pb {lo:Int} {n:Nat}:lj K O H0 (Itr lo n) ((List.range n).map fun k=>.int (lo+(k:Nat))):=fun i H O1 h1 h2 h3=>by
 refine ⟨fun t ht=>?_,fun hl=>?_⟩
 ·rw [List.getElem?_map] at ht
  obtain ⟨c,hc,e⟩:=Option.map_eq_some_iff.mp ht
  have hi:=(List.getElem?_eq_some_iff.mp hc).1
  rw [List.length_range] at hi
  rw [List.getElem?_range hi] at hc
  cases hc
  refine ⟨hi,fun x H1 ⟨e1,e2⟩=>?_⟩
  subst e1 e e2
  exact ⟨fun _ _ q=>q,rfl⟩
 ·rw [List.length_map,List.length_range] at hl
  show n≤i
  omega
def wy (ts:List D):List D:=ts.zipIdx.map fun p=>.tuple [.int (p.2:Nat),p.1]
end
def cT (fa:MA):MI:=fun en=>(fa en).bind fun r=>match r.1 with
 | [.inl (.int j)]=>if -(2 ^ 62)≤j∧j < 2 ^ 62 then some ((List.range j.toNat).map fun k=>.int (0+(k:Nat)),r.2) else none
 | _=>none
def Dt (fa:MA):MI:=fun en=>(fa en).bind fun r=>match r.1 with
 | [.inl (.int i),.inl (.int j)]=>if -(2 ^ 62)≤i∧i < 2 ^ 62∧-(2 ^ 62)≤j∧j < 2 ^ 62 then some ((List.range (j - i).toNat).map fun k=>.int (i+(k:Nat)),r.2) else none
 | _=>none
def Du (fa:MA):MI:=fun en=>(fa en).bind fun r=>match r.1 with
 | [.inl (.list ts)]=>some (wy ts,r.2)
 | [.inl (.tuple ts)]=>some (wy ts,r.2)
 | _=>none
section
variable {X:Cx} {K:PySem.W.Frag} {p:Bool} {ds ds1:List Nat} {d:Nat} {e tg l:Expr} {f:ME} {fa:MA} {sh:Sh}
theorem By (hK:X.K=K) (hl:PE X l (tF K p ds ds1 d f)):PI X tg l (tFI K p ds ds1 (cJ f)):=by
 subst hK
 intro pins s σ H R I h
 obtain ⟨Ox,en,Rg,ts,en',e,hf,k⟩:=h
 unfold cJ at hf
 obtain ⟨⟨t,en1⟩,h1,hf⟩:=Option.bind_eq_some_iff.mp hf
 obtain ⟨ts',h2,hf⟩:=Option.map_eq_some_iff.mp hf
 cases hf
 refine thn (hl pins s σ H (fun v H1=>∃ R1,Post X.K p ds1 Ox σ H en Rg en1 H1 R1 NoA∧Ow X.K (Own R1 Ox) H1 t 0 v NoA) I ⟨Ox,en,Rg,t,en1,e,h1,fun v H1 R1 F P o=>⟨R1,P.less fun _ z=>z.elim,Ow.letgo P (fun _ z=>z) o⟩⟩) fun v s1 ⟨x,H1,I1,r1,R1,P,o⟩=>?_
 cases t with
 | list ts0 =>
  cases h2
  obtain ⟨a,vs,e1,⟨_,fz,ow⟩ | ⟨z,_⟩⟩:=o
  ·subst e1
   cases r1
   obtain ⟨its,rv,pl,hz⟩:=I1.list fz.sq
   refine wpAny_pyIter_list pl.isList ?_
   refine ⟨s1.heap.objs.size,[s1.heap.objs.size],_,_,H1,rfl,I1.kept (t':=s1.toks) fun b o e=>Heap.get?_push_of_some _ e,nv a _,⟨_,Heap.get?_push_size _ rfl,rfl,rfl⟩,fun b hb=>?_,k _ H1 R1 P (nr fz ow)⟩
   have e:b=s1.heap.objs.size:=by simpa using hb
   subst e
   exact I1.fpOk (Nat.le_refl _) (I1.hok.fresh (Nat.le_refl _))
  ·exact absurd rfl z
 | tuple ts0 =>
  cases h2
  obtain ⟨a,vs,e1,⟨_,fz,ow⟩ | ⟨z,_⟩⟩:=o
  ·subst e1
   cases r1
   obtain ⟨its,rv,pl,hz⟩:=I1.tuple fz.sq
   refine wpAny_pyIter_tuple (show s1.heap.IsTuple a its.toArray from pl) ?_
   refine ⟨s1.heap.objs.size,[s1.heap.objs.size],_,_,H1,rfl,I1.kept (t':=s1.toks) fun b o e=>Heap.get?_push_of_some _ e,mn a _,⟨_,Heap.get?_push_size _ rfl,rfl,rfl⟩,fun b hb=>?_,k _ H1 R1 P (o8 fz ow)⟩
   have e:b=s1.heap.objs.size:=by simpa using hb
   subst e
   exact I1.fpOk (Nat.le_refl _) (I1.hok.fresh (Nat.le_refl _))
  ·exact absurd rfl z
 | str z =>
  cases h2
  have e1:x=.str z:=o
  subst e1
  obtain ⟨t,rfl⟩:=r1
  have fin:∀ (ty:String) (o:Obj),(ty="str_ascii_iterator"∨ty="str_iterator")→(s1.heap.push o).IsStrIter s1.heap.objs.size ty z t 0→PIE X pins σ tg R (.ref s1.heap.objs.size) { s1 with heap:=s1.heap.push o }:=fun ty o hty st=>by
   refine ⟨s1.heap.objs.size,[s1.heap.objs.size],_,_,H1,rfl,I1.kept (t':=s1.toks) fun b o e=>Heap.get?_push_of_some _ e,pc _ z t ty hty,st,fun b hb=>?_,k _ H1 R1 P o9⟩
   have e:b=s1.heap.objs.size:=by simpa using hb
   subst e
   exact I1.fpOk (Nat.le_refl _) (I1.hok.fresh (Nat.le_refl _))
  cases ha:z.cps.all (· < 128)
  ·exact wpAny_pyIter_wide ha (fin _ _ (.inr rfl) ⟨_,Heap.get?_push_size _ rfl,rfl,rfl⟩)
  ·exact wpAny_pyIter_ascii ha (fin _ _ (.inl rfl) ⟨_,Heap.get?_push_size _ rfl,rfl,rfl⟩)
 | _=>cases h2
theorem xE {a:Expr} {px pos:Pos} (hg:Gl X "range") (hm:X.mg "range"=none) (ha:PA X [a] (tFA K p ds ds1 sh fa)) (hs:aK a=true):PI X tg (.Call (.Name "range" px) [a] [] pos) (tFI K p ds ds1 (cT fa)) :=
 (nI hg hm ha (bn hs)).imp fun σ H R ⟨Ox,en,Rg,ts,en',e,hf,k⟩=>by
  unfold cT at hf
  obtain ⟨⟨as,en1⟩,h1,hf⟩:=Option.bind_eq_some_iff.mp hf
  refine ⟨Ox,en,Rg,as,en1,e,h1,fun vs H1 R1 F P o=>?_⟩
  dsimp only at hf
  split at hf
  case h_2=>cases hf
  next j =>
  by_cases hj:-(2 ^ 62)≤j∧j < 2 ^ 62
  case neg=>rw [if_neg hj] at hf; cases hf
  rw [if_pos hj] at hf
  cases hf
  obtain ⟨v,r,d,dr,F1,F2,e1,e2,_,_,_,o1,o2⟩:=o
  obtain ⟨_,o2⟩:=o2
  subst e1 o2
  have ev:v=.int j:=o1
  subst ev
  exact ⟨j,rfl,hj.1,hj.2,k _ H1 R1 (P.less fun _ z=>z.elim) pb⟩
end
end L2
namespace L2
open PySem PySem.Spec PyProof.Rows
theorem NewTo.refl {H:Hp}:NewTo H H NoA:=⟨fun _ _ q=>q,fun _ z=>z.elim⟩
theorem OpR.imp {X:Cx} {fn:Value→Value→Sem Value} {r r':R2} (h:OpR X fn r) (hi:∀ x y H Q,r' x y H Q→r x y H Q):OpR X fn r':=fun pins s σ H x y v u Q I rx ry q=>h pins s σ H x y v u Q I rx ry (hi _ _ _ _ q)
theorem OpR.or' {X:Cx} {fn:Value→Value→Sem Value} {r r':R2} (h:OpR X fn r) (h':OpR X fn r'):OpR X fn (fun x y H Q=>r x y H Q∨r' x y H Q):=fun pins s σ H x y v u Q I rx ry q=>q.elim (h pins s σ H x y v u Q I rx ry) (h' pins s σ H x y v u Q I rx ry)
theorem UnR.imp {X:Cx} {fn:Value→Sem Value} {r r':V→Hp→VK→Prop} (h:UnR X fn r) (hi:∀ x H Q,r' x H Q→r x H Q):UnR X fn r':=fun pins s σ H x v Q I rx q=>h pins s σ H x v Q I rx (hi _ _ _ q)
theorem CallR.imp {X:Cx} {fn:Value} {r r':List V→Hp→VK→Prop} (h:CallR X fn r) (hi:∀ x H Q,r' x H Q→r x H Q):CallR X fn r':=fun pins s σ H x v Q I rx q=>h pins s σ H x v Q I rx (hi _ _ _ q)
theorem CallR.or' {X:Cx} {fn:Value} {r r':List V→Hp→VK→Prop} (h:CallR X fn r) (h':CallR X fn r'):CallR X fn (fun x H Q=>r x H Q∨r' x H Q):=fun pins s σ H x v Q I rx q=>q.elim (h pins s σ H x v Q I rx) (h' pins s σ H x v Q I rx)
theorem IxR.imp {X:Cx} {r r':R2} (h:IxR X r) (hi:∀ x y H Q,r' x y H Q→r x y H Q):IxR X r':=fun value slice pins s σ H x y v u Q I rx ry q=>h value slice pins s σ H x y v u Q I rx ry (hi _ _ _ _ q)
section
variable {X:Cx} {K:PySem.W.Frag} {O:AS} {H:Hp} {ts us:List D} {vs ws:List V} {x y:V} {d:Nat} {Q:VK}
theorem ci {l:Addr} (hl:H l=none) (hd:∀ a,O a→∃ o,H a=some o) (h:Ows K O H ts 0 vs NoA):NewTo H (upd H l (.lst vs)) (fun b=>b=l)∧Ow K (U (fun b=>b=l) O) (upd H l (.lst vs)) (.list ts) 1 (.ref l) (fun b=>b=l):=by
 refine ⟨bu hl,l,vs,rfl,.inr ⟨by decide,aG,rfl,NoA,fun _ z=>z.elim,?_⟩⟩
 refine Ows.mv (G:=NoA) ⟨fun a o q _=>(bu (o:=.lst vs) hl).1 a o q,fun a z=>?_⟩ ts (fun _ z=>z) h
 rcases z with z | z
 ·exact .inr (by rw [show a=l from z]; exact hl)
 ·exact .inl z
theorem cg {l:Addr} (hl:H l=none) (hd:∀ a,O a→∃ o,H a=some o) (h:Ows K O H ts 0 vs NoA):NewTo H (upd H l (.tup vs)) NoA∧Ow K (U NoA O) (upd H l (.tup vs)) (.tuple ts) 0 (.ref l) NoA:=by
 refine ⟨⟨(bu hl).1,fun _ z=>z.elim⟩,l,vs,rfl,.inl ⟨rfl,⟨aG,fun z=>?_⟩,?_⟩⟩
 ·rcases z with z | z
  ·exact z
  ·obtain ⟨o,q⟩:=hd l z
   rw [hl] at q
   cases q
 ·refine Ows.mv (G:=NoA) ⟨fun a o q _=>(bu (o:=.tup vs) hl).1 a o q,fun a z=>?_⟩ ts (fun _ z=>z) h
  rcases z with z | z
  ·exact z.elim
  ·exact .inl z
theorem Ows.app:∀ {ts:List D} {vs:List V},Ows K O H ts 0 vs NoA→Ows K O H us 0 ws NoA→Ows K O H (ts++us) 0 (vs++ws) NoA
 | [],_,h,h2=>by rw [show _=[] from h]; exact h2
 | t :: ts,_,h,h2=>by
  obtain ⟨v,r,F1,F2,e,_,_,_,h4,h5⟩:=h
  subst e
  exact ⟨v,r++ws,NoA,NoA,rfl,fun _ z=>z,fun _ z=>z,fun _ z=>z.elim,Ow.any0 t h4,Ows.app (Ows.any0 ts h5) h2⟩
theorem Ows.drop:∀ {ts:List D} {vs:List V} (n:Nat),Ows K O H ts 0 vs NoA→Ows K O H (ts.drop n) 0 (vs.drop n) NoA
 | ts,vs,0,h=>h
 | [],_,n+1,h=>by rw [show _=[] from h]; rfl
 | t :: ts,_,n+1,h=>by
  obtain ⟨v,r,F1,F2,e,_,_,_,h4,h5⟩:=h
  subst e
  exact Ows.drop n (Ows.any0 ts h5)
theorem Ows.take:∀ {ts:List D} {vs:List V} (n:Nat),Ows K O H ts 0 vs NoA→Ows K O H (ts.take n) 0 (vs.take n) NoA
 | ts,vs,0,h=>rfl
 | [],_,n+1,h=>by rw [show _=[] from h]; rfl
 | t :: ts,_,n+1,h=>by
  obtain ⟨v,r,F1,F2,e,_,_,_,h4,h5⟩:=h
  subst e
  exact ⟨v,r.take n,NoA,NoA,rfl,fun _ z=>z,fun _ z=>z,fun _ z=>z.elim,Ow.any0 t h4,Ows.take n (Ows.any0 ts h5)⟩
theorem Ow.lst0 {v:V} (h:Ow K O H (.list ts) 0 v NoA):∃ a vs,v=.ref a∧FzL K O H a vs∧Ows K O H ts 0 vs NoA:=by
 obtain ⟨a,vs,e,⟨_,h1,h2⟩ | ⟨z,_⟩⟩:=h
 ·exact ⟨a,vs,e,h1,h2⟩
 ·exact absurd rfl z
theorem Ow.tup0 {v:V} (h:Ow K O H (.tuple ts) 0 v NoA):∃ a vs,v=.ref a∧FzT K O H a vs∧Ows K O H ts 0 vs NoA:=by
 obtain ⟨a,vs,e,⟨_,h1,h2⟩ | ⟨z,_⟩⟩:=h
 ·exact ⟨a,vs,e,h1,h2⟩
 ·exact absurd rfl z
theorem Ows.one {t:D} (h:Ows K O H [t] 0 vs NoA):∃ v,vs=[v]∧Ow K O H t 0 v NoA:=by
 obtain ⟨v,r,F1,F2,e,_,_,_,h4,h5⟩:=h
 rw [show r=[] from h5] at e
 exact ⟨v,e,Ow.any0 t h4⟩
theorem Ows.two {t t2:D} (h:Ows K O H [t,t2] 0 vs NoA):∃ v w,vs=[v,w]∧Ow K O H t 0 v NoA∧Ow K O H t2 0 w NoA:=by
 obtain ⟨v,r,F1,F2,e,_,_,_,h4,h5⟩:=h
 obtain ⟨w,e2,h6⟩:=Ows.one (Ows.any0 [t2] h5)
 subst e2
 exact ⟨v,w,e,Ow.any0 t h4,h6⟩
def bi:D→D→Option D
 | .int a,.int b=>some (.int (a+b))
 | .str a,.str b=>if a.length+b.length≤sizeLine then some (.str (a++b)) else none
 | _,_=>none
theorem bI:OpR X (binaryOp .Add) (rF2 K bi 3):=(op_add.or' mD).imp fun x y H Q ⟨O,a,b,t,oa,ob,hd,hg,k⟩=>by
 cases a with
 | int i=>cases b with
  | int j=>cases hg; exact .inl ⟨i,j,oa,ob,k _ H NoA .refl rfl⟩
  | _=>cases hg
 | str i=>cases b with
  | str j =>
   dsimp only [bi] at hg
   by_cases hl:i.length+j.length≤sizeLine
   ·rw [if_pos hl] at hg; cases hg; exact .inr ⟨i,j,oa,ob,hl,k _ H NoA .refl rfl⟩
   ·rw [if_neg hl] at hg; cases hg
  | _=>cases hg
 | _=>cases hg
def eP (g:Int→Int→Option D):D→D→Option D
 | .int a,.int b=>g a b
 | _,_=>none
theorem bS {g:Int→Int→Option D} {a b t:D} (h:eP g a b=some t):∃ i j,a=.int i∧b=.int j∧g i j=some t:=by
 cases a with
 | int i=>cases b with
  | int j=>exact ⟨i,j,rfl,rfl,h⟩
  | _=>cases h
 | _=>cases h
def ge:D→D→Option D:=eP fun a b=>some (.int (a - b))
theorem kS:OpR X (binaryOp .Sub) (rF2 K ge 3):=op_sub.imp fun x y H Q ⟨O,a,b,t,oa,ob,hd,hg,k⟩=>by
 obtain ⟨i,j,rfl,rfl,h⟩:=bS hg
 cases h
 exact ⟨i,j,oa,ob,k _ H NoA .refl rfl⟩
instance (i j:Int):Decidable (CMul i j):=by unfold CMul; exact inferInstance
instance (i j:Int):Decidable (fW i j):=by unfold fW; exact inferInstance
instance (i j:Int):Decidable (gA i j):=by unfold gA; exact inferInstance
def cI:D→D→Option D:=eP fun a b=>if CMul a b then some (.int (a * b)) else none
theorem iW:OpR X (binaryOp .Mult) (rF2 K cI 3):=op_mul.imp fun x y H Q ⟨O,a,b,t,oa,ob,hd,hg,k⟩=>by
 obtain ⟨i,j,rfl,rfl,h⟩:=bS hg
 by_cases hc:CMul i j
 ·rw [if_pos hc] at h; cases h; exact ⟨i,j,oa,ob,hc,k _ H NoA .refl rfl⟩
 ·rw [if_neg hc] at h; cases h
def dG:D→D→Option D:=eP fun a b=>if fW a b then some (.int (a / b)) else none
theorem l9:OpR X (binaryOp .FloorDiv) (rF2 K dG 3):=op_fdiv.imp fun x y H Q ⟨O,a,b,t,oa,ob,hd,hg,k⟩=>by
 obtain ⟨i,j,rfl,rfl,h⟩:=bS hg
 by_cases hc:fW i j
 ·rw [if_pos hc] at h; cases h; exact ⟨i,j,oa,ob,hc,k _ H NoA .refl rfl⟩
 ·rw [if_neg hc] at h; cases h
def bL:D→D→Option D:=eP fun a b=>if 0 < b then some (.int (a % b)) else none
theorem dR:OpR X (binaryOp .Mod) (rF2 K bL 3):=op_mod.imp fun x y H Q ⟨O,a,b,t,oa,ob,hd,hg,k⟩=>by
 obtain ⟨i,j,rfl,rfl,h⟩:=bS hg
 by_cases hc:0 < j
 ·rw [if_pos hc] at h; cases h; exact ⟨i,j,oa,ob,hc,k _ H NoA .refl rfl⟩
 ·rw [if_neg hc] at h; cases h
def kw:D→D→Option D:=eP fun a b=>if gA a b then some (.int (a ^ b.toNat)) else none
theorem Bv:OpR X (binaryOp .Pow) (rF2 K kw 3):=op_pow.imp fun x y H Q ⟨O,a,b,t,oa,ob,hd,hg,k⟩=>by
 obtain ⟨i,j,rfl,rfl,h⟩:=bS hg
 by_cases hc:gA i j
 ·rw [if_pos hc] at h; cases h; exact ⟨i,j,oa,ob,hc,k _ H NoA .refl rfl⟩
 ·rw [if_neg hc] at h; cases h
def ltI:D→D→Option D:=eP fun a b=>some (.bool (decide (a < b)))
def leI:D→D→Option D:=eP fun a b=>some (.bool (decide (a≤b)))
def gtI:D→D→Option D:=eP fun a b=>some (.bool (decide (b < a)))
def geI:D→D→Option D:=eP fun a b=>some (.bool (decide (b≤a)))
theorem Cv:OpR X (compareOp .Lt) (rF2 K ltI 3):=op_lt.imp fun x y H Q ⟨O,a,b,t,oa,ob,hd,hg,k⟩=>by
 obtain ⟨i,j,rfl,rfl,h⟩:=bS hg
 cases h
 exact ⟨i,j,oa,ob,k _ H NoA .refl rfl⟩
theorem eA:OpR X (compareOp .LtE) (rF2 K leI 3):=op_le.imp fun x y H Q ⟨O,a,b,t,oa,ob,hd,hg,k⟩=>by
 obtain ⟨i,j,rfl,rfl,h⟩:=bS hg
 cases h
 exact ⟨i,j,oa,ob,k _ H NoA .refl rfl⟩
theorem j8:OpR X (compareOp .Gt) (rF2 K gtI 3):=op_gt.imp fun x y H Q ⟨O,a,b,t,oa,ob,hd,hg,k⟩=>by
 obtain ⟨i,j,rfl,rfl,h⟩:=bS hg
 cases h
 exact ⟨i,j,oa,ob,k _ H NoA .refl rfl⟩
theorem Cw:OpR X (compareOp .GtE) (rF2 K geI 3):=op_ge.imp fun x y H Q ⟨O,a,b,t,oa,ob,hd,hg,k⟩=>by
 obtain ⟨i,j,rfl,rfl,h⟩:=bS hg
 cases h
 exact ⟨i,j,oa,ob,k _ H NoA .refl rfl⟩
def lZ:D→Bool
 | .none=>true
 | _=>false
def isN:D→D→Option D
 | a,.none=>some (.bool (lZ a))
 | _,_=>none
def DH:D→D→Option D
 | a,.none=>some (.bool (!lZ a))
 | _,_=>none
def DL:D→D→Option D
 | .str a,.str b=>some (.bool (cS b a))
 | _,_=>none
def gJ:D→D→Option D
 | .str a,.str b=>some (.bool (!cS b a))
 | _,_=>none
theorem jG:OpR X (compareOp .NotIn) (rF2 K gJ 3):=op_notInS.imp fun x y H Q ⟨O,a,b,t,oa,ob,hd,hg,k⟩=>by
 cases a with
 | str i=>cases b with
  | str j=>cases hg; exact ⟨i,j,oa,ob,k _ H NoA .refl rfl⟩
  | _=>cases hg
 | _=>cases hg
def ixA:D→D→Option D
 | .list ts,.int n=>atI ts n
 | .tuple ts,.int n=>atI ts n
 | .str z,.int n=>if z.length≤sizeLine then (atI z.cps.toList n).map fun c=>.str (mk1 c) else none
 | _,_=>none
theorem gL (hK:X.K=K):IxR X (rF2 K ixA 0):=by
 subst hK
 refine ix_seq.imp fun x y H Q ⟨O,a,b,t,oa,ob,hd,hg,k⟩=>?_
 cases b with
 | int n =>
  cases a with
  | list ts =>
   obtain ⟨a,vs,e,fz,ow⟩:=oa.lst0
   obtain ⟨v,h1,h2⟩:=ow.atI hg
   exact .inl ⟨a,vs,n,v,e,ob,fz.sq,h1,k v H NoA .refl (by rw [cW]; exact h2)⟩
  | tuple ts =>
   obtain ⟨a,vs,e,fz,ow⟩:=oa.tup0
   obtain ⟨v,h1,h2⟩:=ow.atI hg
   exact .inr (.inl ⟨a,vs,n,v,e,ob,fz.sq,h1,k v H NoA .refl (by rw [cW]; exact h2)⟩)
  | str z =>
   dsimp only [ixA] at hg
   by_cases hl:z.length≤sizeLine
   ·rw [if_pos hl] at hg
    obtain ⟨c,h1,h2⟩:=Option.map_eq_some_iff.mp hg
    cases h2
    exact .inr (.inr ⟨z,n,c,oa,ob,hl,h1,k _ H NoA .refl rfl⟩)
   ·rw [if_neg hl] at hg; cases hg
  | _=>cases hg
 | _=>cases a <;> cases hg
def ixT:D→D→Option D
 | .str z,.int n=>if z.length≤sizeLine then (atI z.cps.toList n).map fun c=>.str (mk1 c) else none
 | _,_=>none
theorem b9:IxR X (rF2 K ixT 3):=by
 refine ix_str.imp fun x y H Q ⟨O,a,b,t,oa,ob,hd,hg,k⟩=>?_
 cases a with
 | str z=>cases b with
  | int n =>
   dsimp only [ixT] at hg
   by_cases hl:z.length≤sizeLine
   ·rw [if_pos hl] at hg
    obtain ⟨c,h1,h2⟩:=Option.map_eq_some_iff.mp hg
    cases h2
    exact ⟨z,n,c,oa,ob,hl,h1,k _ H NoA .refl rfl⟩
   ·rw [if_neg hl] at hg; cases hg
  | _=>cases hg
 | _=>cases hg
def cx:D→D→Option D
 | .list a,.list b=>if a.length+b.length≤sizeLine then some (.list (a++b)) else none
 | _,_=>none
def gq:D→D→Option D
 | .tuple a,.tuple b=>if a.length+b.length≤sizeLine then some (.tuple (a++b)) else none
 | _,_=>none
end
end L2
namespace L2
open PySem PySem.Spec PyProof.Rows
def grd {α:Type} (c:Prop) [Decidable c] (t:α):Option α:=if c then some t else none
theorem bq {α:Type} {c:Prop} [Decidable c] {t u:α} (h:grd c t=some u):c∧t=u:=by
 unfold grd at h
 by_cases hc:c
 ·rw [if_pos hc] at h; exact ⟨hc,Option.some.inj h⟩
 ·rw [if_neg hc] at h; cases h
section
variable {X:Cx} {K:PySem.W.Frag} {O:AS} {H:Hp} {ts us:List D} {vs ws:List V} {x y:V} {d:Nat} {Q:VK}
def Cg (K:PySem.W.Frag):R2:=fun x y H Q=>∃ l b xs zs,x=.ref l∧y=.ref b∧SqL K H l xs∧SqL K H b zs∧xs.length+zs.length≤sizeLine∧∀ p,H p=none→Q (.ref p) (upd H p (.lst (xs++zs)))
theorem op_catL:OpR X (binaryOp .Add) (Cg X.K):=by
 intro pins s σ H x y v u Q I rx ry h
 obtain ⟨l,b,xs,zs,rfl,rfl,hH,hB,hz,q⟩:=h
 cases rx
 cases ry
 obtain ⟨its,r,⟨⟨c1,dd,da1,sl⟩,n,ho,hc,hdd,hda⟩,_⟩:=I.list hH
 obtain ⟨its2,r2,⟨⟨c2,dd2,da2,sl2⟩,n2,ho2,hc2,hdd2,hda2⟩,_⟩:=I.list hB
 have hl:=r.length
 have hl2:=r2.length
 simp only at hc hda hc2 hda2
 subst hc hda hc2 hda2
 refine concat_meets ⟨_,ho,rfl⟩ ⟨_,ho2,rfl⟩ noFill_list_add seq_list_add PySem.F.slot_list_add PySem.F.entry_list_add (PySem.F.args_list_add_2 _ _) (list_addW l b its.toArray its2.toArray n n2 dd dd2 sl sl2 (by simp only [List.size_toArray]; omega)) ⟨ho,ho2,?_⟩
 have ea:its.toArray++its2.toArray=(its++its2).toArray:=by simp
 rw [ea]
 exact ⟨.ref _,_,I.lnew (t':=s.toks) (r.append r2) (by rw [List.length_append]; omega),rfl,q _ I.fresh⟩
theorem cm (hK:X.K=K):OpR X (binaryOp .Add) (rF2 K cx 1):=by
 subst hK
 refine op_catL.imp fun x y H Q ⟨O,a,b,t,oa,ob,hd,hg,k⟩=>?_
 cases a with
 | list ts=>cases b with
  | list us =>
   dsimp only [cx] at hg
   by_cases hl:ts.length+us.length≤sizeLine
   case neg=>rw [if_neg hl] at hg; cases hg
   rw [if_pos hl] at hg
   cases hg
   obtain ⟨a,vs,e1,f1,w1⟩:=oa.lst0
   obtain ⟨b,ws,e2,f2,w2⟩:=ob.lst0
   refine ⟨a,b,vs,ws,e1,e2,f1.sq,f2.sq,by rw [w1.len,w2.len]; exact hl,fun p hp=>?_⟩
   obtain ⟨n1,n2⟩:=ci hp hd (w1.app w2)
   exact k _ _ _ n1 n2
  | _=>cases hg
 | _=>cases hg
theorem gM (hK:X.K=K):OpR X (binaryOp .Add) (rF2 K gq 0):=by
 intro pins s σ H x y v u Q I rx ry ⟨O,a,b,t,oa,ob,hd,hg,k⟩
 cases a with
 | tuple ts=>cases b with
  | tuple us =>
   dsimp only [gq] at hg
   by_cases hl:ts.length+us.length≤sizeLine
   case neg=>rw [if_neg hl] at hg; cases hg
   rw [if_pos hl] at hg
   cases hg
   obtain ⟨a,vs,e1,f1,w1⟩:=oa.tup0
   obtain ⟨b,ws,e2,f2,w2⟩:=ob.tup0
   have l1:=w1.len
   have l2:=w2.len
   by_cases hx:vs=[]
   ·subst hx
    have et:ts=[]:=List.length_eq_zero_iff.mp l1.symm
    subst et
    refine pC hK pins s σ H x y v u Q I rx ry ⟨a,b,ws,e1,e2,f1.sq,f2.sq,?_⟩
    rw [← e2]
    exact k y H NoA .refl (by rw [cW]; exact ob)
   ·refine Cp hK pins s σ H x y v u Q I rx ry ⟨a,b,vs,ws,e1,e2,f1.sq,f2.sq,hx,by omega,fun hy=>?_,fun hy p hp=>?_⟩
    ·subst hy
     have et:us=[]:=List.length_eq_zero_iff.mp l2.symm
     subst et
     rw [← e1]
     exact k x H NoA .refl (by rw [cW,List.append_nil]; exact oa)
    ·obtain ⟨n1,n2⟩:=cg hp hd (w1.app w2)
     exact k _ _ _ n1 n2
  | _=>cases hg
 | _=>cases hg
def DJ:D→D→Option D
 | .list ts,.int k=>grd (-(2 ^ 63)≤k∧k < 2 ^ 63∧ts.length * k.toNat≤sizeLine) (.list (List.replicate k.toNat ts).flatten)
 | _,_=>none
def pE:D→D→Option D
 | .str z,.int k=>grd (z.length≤4000∧-(2 ^ 63)≤k∧k≤4000) (.str (Txt.mul z k))
 | _,_=>none
theorem xC:OpR X (binaryOp .Mult) (rF2 K pE 3):=op_mulS.imp fun x y H Q ⟨O,a,b,t,oa,ob,hd,hg,k⟩=>by
 cases a with
 | str z=>cases b with
  | int n =>
   obtain ⟨⟨c1,c2,c3⟩,rfl⟩:=bq hg
   exact ⟨z,n,oa,ob,c1,c2,c3,k _ H NoA .refl rfl⟩
  | _=>cases hg
 | _=>cases hg
def da:D→Option D
 | .int i=>some (.int (-i))
 | _=>none
theorem fh:UnR X (unaryOp .USub) (rF1 K da 3):=un_neg.imp fun x H Q ⟨O,a,t,oa,hd,hg,k⟩=>by
 cases a with
 | int i=>cases hg; exact ⟨i,oa,k _ H NoA .refl rfl⟩
 | _=>cases hg
def bp:List D→Option D
 | [.list ts]=>some (.int ts.length)
 | [.tuple ts]=>some (.int ts.length)
 | [.str z]=>grd (z.length≤sizeLine) (.int z.length)
 | _=>none
theorem bH (hK:X.K=K):CallR X (.builtin "len") (rFn K bp 3):=(C8 hK).imp fun xs H Q ⟨O,as,t,oa,hd,hg,k⟩=>by
 match as,hg with
 | [.list ts],hg =>
  cases hg
  obtain ⟨v,rfl,o⟩:=oa.one
  obtain ⟨a,vs,rfl,fz,w⟩:=o.lst0
  exact ⟨_,_,rfl,.inl ⟨vs,fz.sq,rfl⟩,by rw [w.len]; exact k _ H NoA .refl rfl⟩
 | [.tuple ts],hg =>
  cases hg
  obtain ⟨v,rfl,o⟩:=oa.one
  obtain ⟨a,vs,rfl,fz,w⟩:=o.tup0
  exact ⟨_,_,rfl,.inr ⟨vs,fz.sq,rfl⟩,by rw [w.len]; exact k _ H NoA .refl rfl⟩
 | [.str z],hg =>
  obtain ⟨c,rfl⟩:=bq hg
  obtain ⟨v,rfl,o⟩:=oa.one
  exact ⟨_,_,rfl,by rw [show v=.str z from o]; exact ⟨c,rfl⟩,k _ H NoA .refl rfl⟩
def il:List D→Option D
 | [.int i]=>some (.int (if i < 0 then -i else i))
 | _=>none
theorem oF:CallR X (.builtin "abs") (rFn K il 3):=call_abs.imp fun xs H Q ⟨O,as,t,oa,hd,hg,k⟩=>by
 match as,hg with
 | [.int i],hg =>
  cases hg
  obtain ⟨v,rfl,o⟩:=oa.one
  exact ⟨i,by rw [show v=.int i from o],k _ H NoA .refl rfl⟩
def DA:List D→Option D
 | [.int i,.int j]=>some (.int (if j > i then j else i))
 | _=>none
def j6:List D→Option D
 | [.int i,.int j]=>some (.int (if j < i then j else i))
 | _=>none
theorem l8 (hc:X.calm=true):CallR X (.builtin "min") (rFn K j6 3):=(oR hc).imp fun xs H Q ⟨O,as,t,oa,hd,hg,k⟩=>by
 match as,hg with
 | [.int i,.int j],hg =>
  cases hg
  obtain ⟨v,w,rfl,o,o2⟩:=oa.two
  exact ⟨i,j,by rw [show v=.int i from o,show w=.int j from o2],k _ H NoA .refl rfl⟩
def DK:List D→Option D
 | [.int i]=>some (.int i)
 | [.bool b]=>some (.int (if b then 1 else 0))
 | _=>none
def bP (z:Str):List D:=(li z).map fun c=>.str (mk1 c)
theorem fH {z:Str}:Ows K O H (bP z) 0 (a7 z) NoA:=by
 unfold bP a7
 show Ows K O H ((li z).map fun c=>.str (mk1 c)) 0 ((li z).map sgn) NoA
 generalize li z=l
 induction l with
 | nil=>rfl
 | cons c r ih=>exact ⟨sgn c,r.map sgn,NoA,NoA,rfl,fun _ z=>z,fun _ z=>z,fun _ z=>z.elim,rfl,ih⟩
def bR:List D→Option D
 | [.list ts]=>some (.list ts)
 | [.tuple ts]=>some (.list ts)
 | [.str z]=>grd (z.cps.size≤sizeLine) (.list (bP z))
 | _=>none
theorem fj (hK:X.K=K) (hc:X.calm=true):CallR X (.type "list") (rFn K bR 1):=((xb hK).or' (jt hc)).imp fun xs H Q ⟨O,as,t,oa,hd,hg,k⟩=>by
 match as,hg with
 | [.list ts],hg =>
  cases hg
  obtain ⟨v,rfl,o⟩:=oa.one
  obtain ⟨a,vs,rfl,fz,w⟩:=o.lst0
  exact .inl ⟨a,vs,rfl,.inl fz.sq,fun l hl=>k _ _ _ (ci hl hd w).1 (ci hl hd w).2⟩
 | [.tuple ts],hg =>
  cases hg
  obtain ⟨v,rfl,o⟩:=oa.one
  obtain ⟨a,vs,rfl,fz,w⟩:=o.tup0
  exact .inl ⟨a,vs,rfl,.inr fz.sq,fun l hl=>k _ _ _ (ci hl hd w).1 (ci hl hd w).2⟩
 | [.str z],hg =>
  obtain ⟨c,rfl⟩:=bq hg
  obtain ⟨v,rfl,o⟩:=oa.one
  exact .inr ⟨z,by rw [show v=.str z from o],c,fun l hl=>k _ _ _ (ci (K:=K) hl hd fH).1 (ci hl hd fH).2⟩
def mr:List D→Option D
 | [.list ts]=>some (.tuple ts)
 | [.tuple ts]=>some (.tuple ts)
 | _=>none
theorem p4 (hK:X.K=K):CallR X (.type "tuple") (rFn K mr 0):=(A5 hK).imp fun xs H Q ⟨O,as,t,oa,hd,hg,k⟩=>by
 match as,hg with
 | [.list ts],hg =>
  cases hg
  obtain ⟨v,rfl,o⟩:=oa.one
  obtain ⟨a,vs,rfl,fz,w⟩:=o.lst0
  exact ⟨a,vs,rfl,.inl ⟨fz.sq,fun l hl=>k _ _ _ (cg hl hd w).1 (cg hl hd w).2⟩⟩
 | [.tuple ts],hg =>
  cases hg
  obtain ⟨v,rfl,o⟩:=oa.one
  obtain ⟨a,vs,rfl,fz,w⟩:=o.tup0
  exact ⟨a,vs,rfl,.inr ⟨fz.sq,k _ H NoA .refl (by rw [cW]; exact o)⟩⟩
def dM:List D→Option (List Bool)
 | []=>some []
 | .bool b :: r=>(dM r).map (b :: ·)
 | _ :: _=>none
theorem jB:∀ {ts:List D} {vs:List V} {bs:List Bool},Ows K O H ts 0 vs NoA→dM ts=some bs→vs=bs.map V.bl
 | [],_,_,h,hb=>by cases hb; exact h
 | .bool b :: r,_,_,h,hb=>by
  obtain ⟨v,w,F1,F2,e,_,_,_,h4,h5⟩:=h
  obtain ⟨bs',h6,h7⟩:=Option.map_eq_some_iff.mp hb
  subst e h7
  rw [show v=.bl b from h4,jB (Ows.any0 r h5) h6]
  rfl
 | .none :: _,_,_,_,hb=>by cases hb
 | .int _ :: _,_,_,_,hb=>by cases hb
 | .str _ :: _,_,_,_,hb=>by cases hb
 | .list _ :: _,_,_,_,hb=>by cases hb
 | .tuple _ :: _,_,_,_,hb=>by cases hb
 | .dict _ :: _,_,_,_,hb=>by cases hb
def ik:List D→Option D
 | [.list ts]=>(dM ts).map fun bs=>.bool (bs.all id)
 | _=>none
theorem oE (hK:X.K=K) (hc:X.calm=true):CallR X (.builtin "all") (rFn K ik 3):=(Da hK hc).imp fun xs H Q ⟨O,as,t,oa,hd,hg,k⟩=>by
 match as,hg with
 | [.list ts],hg =>
  obtain ⟨bs,h1,rfl⟩:=Option.map_eq_some_iff.mp hg
  obtain ⟨v,rfl,o⟩:=oa.one
  obtain ⟨a,vs,rfl,fz,w⟩:=o.lst0
  have e:=jB w h1
  subst e
  exact ⟨a,bs,rfl,fz.sq,k _ H NoA .refl rfl⟩
def tyN:D→String
 | .none=>"NoneType" | .bool _=>"bool" | .int _=>"int" | .str _=>"str" | .list _=>"list" | .tuple _=>"tuple" | .dict _=>"dict"
def aJ (n T:String):Bool:=n == T || (n == "bool" && T == "int")
theorem lU {T:String} (hT:T∈["int", "bool", "str", "list", "tuple", "dict"]) (a:D):PySem.W.kitOne K (.type (tyN a)) (.type T)=some (aJ (tyN a) T):=by
 simp only [List.mem_cons,List.not_mem_nil,or_false] at hT
 rcases hT with rfl | rfl | rfl | rfl | rfl | rfl <;> cases a <;> rfl
def Cf (K:PySem.W.Frag):List V→Hp→VK→Prop:=fun xs H Q=>∃ x T,∃ (O:AS) (a:D),xs=[x,.ty T]∧Ow K O H a 0 x NoA∧T∈["int", "bool", "str", "list", "tuple", "dict"]∧Q (.bl (aJ (tyN a) T)) H
theorem oT:CallR X (.builtin "isinstance") (Cf X.K):=by
 intro pins s σ H xs us Q I r h
 obtain ⟨x,T,O,a,rfl,oa,hT,q⟩:=h
 have base:∀ ty,TyOf X.K H x (.type ty)→tyN a=ty→wpAny (model X.prog X.w) X.A (call (.builtin "isinstance") us) (EP X pins σ Q) X.xe s:=fun ty h1 h2=>by
  refine qp pins s σ H _ us Q I r ⟨x,.type ty,T,aJ (tyN a) T,rfl,h1,?_,q⟩
  rw [← h2]
  exact lU hT a
 cases a with
 | none=>exact base _ (by rw [show x=.non from oa]; exact .non) rfl
 | bool b=>exact base _ (by rw [show x=.bl b from oa]; exact .bl b) rfl
 | int b=>exact base _ (by rw [show x=.int b from oa]; exact .int b) rfl
 | str b=>exact base _ (by rw [show x=.str b from oa]; exact .str b) rfl
 | tuple ts =>
  obtain ⟨p,vs,rfl,fz,w⟩:=oa.tup0
  exact base _ (.tup fz.1) rfl
 | dict ts =>
  obtain ⟨p,vs,rfl,⟨_,h1,_⟩ | ⟨_,h1,_⟩ | ⟨_,kk,b,_,h1,_⟩⟩:=oa
  ·exact base _ (.dK h1) rfl
  ·exact base _ (.dK h1) rfl
  ·exact base _ (.dT h1) rfl
 | list ts =>
  obtain ⟨p,vs,rfl,fz,w⟩:=oa.lst0
  obtain ⟨u,u2,rfl,r1,r2⟩:=r.two
  cases r1
  cases r2
  obtain ⟨its,rv,pl,_⟩:=I.list fz.sq
  have e:=lU (K:=X.K) hT (.list ts)
  obtain ⟨o,n,h1,h2,_⟩:=pl
  exact PySem.W.kia_one PySem.W.kitx_list I.kIn ⟨o,h1,h2⟩ e (fun z=>nomatch z) fun tk=>⟨.bl _,H,I.tok tk,rfl,q⟩
end
def aH (T:String):D→Option D:=fun a=>some (.bool (aJ (tyN a) T))
section
variable {X:Cx} {K:PySem.W.Frag} {p:Bool} {ds ds1:List Nat} {d1:Nat} {e:Expr} {f:ME}
theorem BI {T:Str} {n:String} {px pt pos:Pos} (hK:X.K=K) (hg:Gl X "isinstance") (hm:X.mg "isinstance"=none) (hgT:Gl X T) (hmT:X.mg T=none) (hbT:bootBuiltins T=some (.type n)) (hT:n∈["int", "bool", "str", "list", "tuple", "dict"]) (he:PE X e (tF K p ds ds1 d1 f))
  (hnT:T≠"__name__") (hdT:(T == ("__debug__" : Str))=false)
  (hs1:starEach [e,.Name T pt] X.env=(false,eval e X.env) :: starEach [.Name T pt] X.env) (hs2:starEach [.Name T pt] X.env=(false,eval (.Name T pt) X.env) :: starEach [] X.env) (hpl:(backTo pos (starEach [.Name T pt] X.env)).any (·.1)=false) :
  PE X (.Call (.Name "isinstance" px) [e,.Name T pt] [] pos) (tF K p ds ds1 3 (e1 (aH n) f)):=by
 subst hK
 refine (hZ oT hg hm boot_isinstance (cN he (cN (wW (v:=.ty n) hgT hmT hbT rfl hnT hdT) pa_nil hs2) hs1) (by decide) (by decide) hs1 hpl).imp fun σ H Q h=>?_
 obtain ⟨Ox,en,R,t,en',e,hf,k⟩:=h
 unfold e1 at hf
 obtain ⟨⟨t1,en1⟩,h1,hf⟩:=Option.bind_eq_some_iff.mp hf
 obtain ⟨t',h3,hf⟩:=Option.map_eq_some_iff.mp hf
 cases hf
 cases h3
 refine ⟨Ox,en,R,t1,en1,e,h1,fun v H' R' F P o=>?_⟩
 exact ⟨v,n,Own R' Ox,t1,rfl,Ow.letgo P (fun _ z=>z) o,hT,k _ H' R' NoA (P.less fun _ z=>z.elim) rfl⟩
end
end L2
namespace L2
open PySem PySem.Spec PyProof.Rows
mutual
def peq:D→D→Bool
 | .none,.none=>true
 | .bool a,.bool b=>a == b
 | .bool a,.int b=>(if a then (1:Int) else 0) == b
 | .int a,.bool b=>a == (if b then (1:Int) else 0)
 | .int a,.int b=>a == b
 | .str a,.str b=>a == b
 | .list a,.list b=>cH a b
 | .tuple a,.tuple b=>cH a b
 | _,_=>false
def cH:List D→List D→Bool
 | [],[]=>true
 | a :: r,b :: s=>peq a b && cH r s
 | _,_=>false
end
mutual
def ax:D→Bool
 | .dict _=>false
 | .list ts=>aQ ts
 | .tuple ts=>aQ ts
 | _=>true
def aQ:List D→Bool
 | []=>true
 | t :: r=>ax t && aQ r
end
mutual
theorem hX:∀ a:D,ax a=true→peq a a=true
 | .none,_=>rfl
 | .bool b,_=>by cases b <;> rfl
 | .int i,_=>by simp [peq]
 | .str i,_=>by simp [peq]
 | .list ts,h=>by simp only [peq]; exact gh ts (by simpa [ax] using h)
 | .tuple ts,h=>by simp only [peq]; exact gh ts (by simpa [ax] using h)
 | .dict _,h=>by simp [ax] at h
theorem gh:∀ a:List D,aQ a=true→cH a a=true
 | [],_=>rfl
 | t :: r,h=>by
  have h':ax t=true∧aQ r=true:=by simpa [aQ] using h
  simp only [cH,hX t h'.1,gh r h'.2,Bool.and_self]
end
mutual
def fQ:D→Nat
 | .list ts=>eE ts+1
 | .tuple ts=>eE ts+1
 | _=>0
def eE:List D→Nat
 | []=>0
 | t :: r=>max (fQ t) (eE r)
end
theorem gn:∀ {ts:List D} {i:Nat} {t:D},ts[i]?=some t→fQ t≤eE ts
 | [],_,_,h=>by simp at h
 | u :: r,i,t,h=>by
  simp only [eE]
  cases i with
  | zero=>simp at h; subst h; exact Nat.le_max_left _ _
  | succ i=>exact Nat.le_trans (gn (by simpa using h)) (Nat.le_max_right _ _)
theorem cA:∀ {ts:List D} {i:Nat} {t:D},aQ ts=true→ts[i]?=some t→ax t=true
 | [],_,_,_,h=>by simp at h
 | u :: r,i,t,hn,h=>by
  have h':ax u=true∧aQ r=true:=by simpa [aQ] using hn
  cases i with
  | zero=>simp at h; subst h; exact h'.1
  | succ i=>exact cA h'.2 (by simpa using h)
theorem hV:∀ {a b:List D},a.length≠b.length→cH a b=false
 | [],[],h=>absurd rfl h
 | [],_ :: _,_=>rfl
 | _ :: _,[],_=>rfl
 | a :: r,b :: s,h=>by
  simp only [cH,hV (a:=r) (b:=s) (fun z=>h (by rw [List.length_cons,List.length_cons,z])),Bool.and_false]
def eAt (a b:List D) (j:Nat):Bool:=match a[j]?,b[j]? with
 | some x,some y=>peq x y
 | _,_=>true
theorem jv (n:Nat) (f:Nat→Bool):(List.range (n+1)).all f=(f 0 && (List.range n).all fun j=>f (j+1)):=by
 rw [List.range_succ_eq_map,List.all_cons,List.all_map]
 rfl
theorem hW:∀ {a b:List D},a.length=b.length→(List.range a.length).all (eAt a b)=cH a b
 | [],[],_=>rfl
 | a :: r,b :: s,h=>by
  rw [List.length_cons,jv]
  have e:(List.range r.length).all (fun j=>eAt (a :: r) (b :: s) (j+1))=(List.range r.length).all (eAt r s):=by
   congr 1
  rw [e,hW (by simpa using h)]
  rfl
 | [],_ :: _,h=>by simp at h
 | _ :: _,[],h=>by simp at h
section
open PySem.SeqAt
variable {X:Cx} {pins:List (Addr × Obj)} {σ:St} {H:Hp} {s:Shared} {O:AS}
theorem wl {p:Addr} {vs ws:List V} (I:Inv X pins σ H s) (h:SqL X.K H p vs) (g:SqT X.K H p ws):False:=by
 obtain ⟨its,_,p1,_⟩:=I.list h
 obtain ⟨its2,_,p2,_⟩:=I.tuple g
 exact ne_of_list_tuple p1.isList (show s.heap.IsTuple p its2.toArray from p2) rfl
theorem AU {p:Addr} {vs:List V} {ks:List (List Key × V)} (I:Inv X pins σ H s) (h:SqL X.K H p vs) (g:H p=some (.dT ks)):False:=by
 obtain ⟨its,_,⟨o,n,e1,e2,_⟩,_⟩:=I.list h
 obtain ⟨_,_,_,_,o',_,_,g1,g2,_⟩:=j9 I.hok g
 rw [e1] at g1
 cases g1
 rw [g2.1] at e2
 simp at e2
theorem Co {p:Addr} {vs:List V} {ks:List (Key × V)} (I:Inv X pins σ H s) (h:SqL X.K H p vs) (g:H p=some (.dK ks)):False:=by
 obtain ⟨its,_,⟨o,n,e1,e2,_⟩,_⟩:=I.list h
 obtain ⟨_,_,_,_,o',_,_,g1,g2,_⟩:=i4 I.hok g
 rw [e1] at g1
 cases g1
 rw [g2.1] at e2
 simp at e2
mutual
theorem Ow.inj (I:Inv X pins σ H s):∀ (a b:D) {x:V},Ow X.K O H a 0 x NoA→Ow X.K O H b 0 x NoA→ax a=true→a=b
 | .none,b,_,h,g,_=>by
  cases (show _=_ from h)
  cases b with
  | none=>rfl
  | list ts=>obtain ⟨_,_,z,_⟩:=g; cases z
  | tuple ts=>obtain ⟨_,_,z,_⟩:=g; cases z
  | dict ts=>obtain ⟨_,_,z,_⟩:=g; cases z
  | bool c=>cases (show V.non=V.bl c from g)
  | int c=>cases (show V.non=V.int c from g)
  | str c=>cases (show V.non=V.str c from g)
 | .bool c,b,_,h,g,_=>by
  cases (show _=_ from h)
  cases b with
  | none=>cases (show V.bl c=V.non from g)
  | list ts=>obtain ⟨_,_,z,_⟩:=g; cases z
  | tuple ts=>obtain ⟨_,_,z,_⟩:=g; cases z
  | dict ts=>obtain ⟨_,_,z,_⟩:=g; cases z
  | bool c'=>cases (show V.bl c=V.bl c' from g); rfl
  | int c'=>cases (show V.bl c=V.int c' from g)
  | str c'=>cases (show V.bl c=V.str c' from g)
 | .int c,b,_,h,g,_=>by
  cases (show _=_ from h)
  cases b with
  | none=>cases (show V.int c=V.non from g)
  | list ts=>obtain ⟨_,_,z,_⟩:=g; cases z
  | tuple ts=>obtain ⟨_,_,z,_⟩:=g; cases z
  | dict ts=>obtain ⟨_,_,z,_⟩:=g; cases z
  | bool c'=>cases (show V.int c=V.bl c' from g)
  | int c'=>cases (show V.int c=V.int c' from g); rfl
  | str c'=>cases (show V.int c=V.str c' from g)
 | .str c,b,_,h,g,_=>by
  cases (show _=_ from h)
  cases b with
  | none=>cases (show V.str c=V.non from g)
  | list ts=>obtain ⟨_,_,z,_⟩:=g; cases z
  | tuple ts=>obtain ⟨_,_,z,_⟩:=g; cases z
  | dict ts=>obtain ⟨_,_,z,_⟩:=g; cases z
  | bool c'=>cases (show V.str c=V.bl c' from g)
  | int c'=>cases (show V.str c=V.int c' from g)
  | str c'=>cases (show V.str c=V.str c' from g); rfl
 | .list ts,b,_,h,g,hn=>by
  obtain ⟨p,vs,rfl,fz,w⟩:=h.lst0
  cases b with
  | none=>cases (show V.ref p=V.non from g)
  | bool c'=>cases (show V.ref p=V.bl c' from g)
  | int c'=>cases (show V.ref p=V.int c' from g)
  | str c'=>cases (show V.ref p=V.str c' from g)
  | list us =>
   obtain ⟨p',vs',e,fz',w'⟩:=g.lst0
   cases e
   have:=I.list_inj fz.sq fz'.sq
   subst this
   rw [Ows.inj I ts us w w' (by simpa [ax] using hn)]
  | tuple us =>
   obtain ⟨p',vs',e,fz',w'⟩:=g.tup0
   cases e
   exact (wl I fz.sq fz'.sq).elim
  | dict us =>
   obtain ⟨p',vs',e,⟨_,g1,_⟩ | ⟨z,_⟩ | ⟨_,_,_,_,g1,_⟩⟩:=g
   ·cases e
    exact (Co I fz.sq g1).elim
   ·exact absurd rfl z
   ·cases e
    exact (AU I fz.sq g1).elim
 | .tuple ts,b,_,h,g,hn=>by
  obtain ⟨p,vs,rfl,fz,w⟩:=h.tup0
  cases b with
  | none=>cases (show V.ref p=V.non from g)
  | bool c'=>cases (show V.ref p=V.bl c' from g)
  | int c'=>cases (show V.ref p=V.int c' from g)
  | str c'=>cases (show V.ref p=V.str c' from g)
  | tuple us =>
   obtain ⟨p',vs',e,fz',w'⟩:=g.tup0
   cases e
   have:=fz.1.symm.trans fz'.1
   cases this
   rw [Ows.inj I ts us w w' (by simpa [ax] using hn)]
  | list us =>
   obtain ⟨p',vs',e,fz',w'⟩:=g.lst0
   cases e
   exact (wl I fz'.sq fz.sq).elim
  | dict us =>
   obtain ⟨p',vs',e,⟨_,g1,_⟩ | ⟨z,_⟩ | ⟨_,_,_,_,g1,_⟩⟩:=g
   ·cases e
    rw [fz.1] at g1
    cases g1
   ·exact absurd rfl z
   ·cases e
    rw [fz.1] at g1
    cases g1
 | .dict _,_,_,_,_,hn=>by simp [ax] at hn
theorem Ows.inj (I:Inv X pins σ H s):∀ (a b:List D) {x:List V},Ows X.K O H a 0 x NoA→Ows X.K O H b 0 x NoA→aQ a=true→a=b
 | [],b,_,h,g,_=>by
  cases (show _=_ from h)
  cases b with
  | nil=>rfl
  | cons u us=>obtain ⟨_,_,_,_,e,_⟩:=g; cases e
 | t :: ts,b,_,h,g,hn=>by
  obtain ⟨v,r,F1,F2,e,_,_,_,h4,h5⟩:=h
  subst e
  have hn':ax t=true∧aQ ts=true:=by simpa [aQ] using hn
  cases b with
  | nil=>cases (show v :: r=[] from g)
  | cons u us =>
   obtain ⟨v',r',G1,G2,e,_,_,_,g4,g5⟩:=g
   cases e
   rw [Ow.inj I t u (Ow.any0 t h4) (Ow.any0 u g4) hn'.1,Ows.inj I ts us (Ows.any0 ts h5) (Ows.any0 us g5) hn'.2]
end
theorem kP {A:Around} {ts us:List D} {vs ws:List V} {its its2:List Value} (w:Ows X.K O H ts 0 vs NoA) (w2:Ows X.K O H us 0 ws NoA) (rv:Vals vs its) (rv2:Vals ws its2)
  (ih:∀ (j:Nat) a b x y v u,ts[j]?=some a→us[j]?=some b→Ow X.K O H a 0 x NoA→Ow X.K O H b 0 y NoA→RelV x v→RelV y u→EqAt A s v u (peq a b)) :
  ∀ j (h1:j < its.toArray.size) (h2:j < its2.toArray.size),EqAt A s its.toArray[j] its2.toArray[j] (eAt ts us j):=fun j h1 h2=>by
 have h1':j < its.length:=by simpa using h1
 have h2':j < its2.length:=by simpa using h2
 have l1:=rv.length
 have l2:=rv2.length
 have m1:=w.len
 have m2:=w2.len
 have e1:ts[j]?=some ts[j]:=List.getElem?_eq_getElem (by omega)
 have e2:us[j]?=some us[j]:=List.getElem?_eq_getElem (by omega)
 obtain ⟨x,g1,o1⟩:=w.get e1
 obtain ⟨y,g2,o2⟩:=w2.get e2
 obtain ⟨u1,f1,q1⟩:=rv.get g1
 obtain ⟨u2,f2,q2⟩:=rv2.get g2
 have z:=ih j _ _ x y u1 u2 e1 e2 o1 o2 q1 q2
 rw [List.getElem?_eq_getElem h1'] at f1
 rw [List.getElem?_eq_getElem h2'] at f2
 have i1:its.toArray[j]=u1:=by simpa using Option.some.inj f1
 have i2:its2.toArray[j]=u2:=by simpa using Option.some.inj f2
 rw [i1,i2]
 unfold eAt
 rw [e1,e2]
 exact z
theorem wx (I:Inv X pins σ H s):∀ (n:Nat) (a b:D) (A:Around) (x y:V) (v u:Value),fQ a≤n→ax a=true→ax b=true→Ow X.K O H a 0 x NoA→Ow X.K O H b 0 y NoA→RelV x v→RelV y u→A.units+n+1 < cLine →
  EqAt A s v u (peq a b)∧RcAt A s v u (peq a b)∧RcNeAt A s v u (!peq a b):=by
 intro n
 induction n with
 | zero =>
  intro a b A x y v u hdp hna hnb o1 o2 r1 r2 hun
  have hu:A.units < cLine:=by omega
  cases a with
  | none =>
   cases b with
   | none =>
    cases (show x=V.non from o1)
    cases r1
    cases (show y=V.non from o2)
    cases r2
    exact ⟨EqAt.same _,RcAt.none_none,RcNeAt.none_none⟩
   | bool c2 =>
    cases (show x=V.non from o1)
    cases r1
    cases (show y=V.bl c2 from o2)
    cases r2
    exact ⟨EqAt.none_bool _,RcAt.none_bool _,RcNeAt.none_bool _⟩
   | int c2 =>
    cases (show x=V.non from o1)
    cases r1
    cases (show y=V.int c2 from o2)
    obtain ⟨tk2,rfl⟩:=r2
    exact ⟨EqAt.none_int _ _,RcAt.none_int _ _,RcNeAt.none_int _ _⟩
   | str c2 =>
    cases (show x=V.non from o1)
    cases r1
    cases (show y=V.str c2 from o2)
    obtain ⟨tk2,rfl⟩:=r2
    exact ⟨EqAt.none_str _ _,RcAt.none_str _ _,RcNeAt.none_str _ _⟩
   | list c2 =>
    cases (show x=V.non from o1)
    cases r1
    obtain ⟨p2,vs2,rfl,fz2,w2⟩:=o2.lst0
    cases r2
    obtain ⟨its2,rv2,pl2,_⟩:=I.list fz2.sq
    have hl2:=pl2.isList
    exact ⟨EqAt.none_list  hl2 hu,RcAt.none_list  hl2 hu,RcNeAt.none_list  hl2 hu⟩
   | tuple c2 =>
    cases (show x=V.non from o1)
    cases r1
    obtain ⟨p2,vs2,rfl,fz2,w2⟩:=o2.tup0
    cases r2
    obtain ⟨its2,rv2,pl2,_⟩:=I.tuple fz2.sq
    have hl2:s.heap.IsTuple p2 its2.toArray:=pl2
    exact ⟨EqAt.none_tuple  hl2 hu,RcAt.none_tuple  hl2 hu,RcNeAt.none_tuple  hl2 hu⟩
   | dict c2=>simp [ax] at hnb
  | bool c1 =>
   cases b with
   | none =>
    cases (show x=V.bl c1 from o1)
    cases r1
    cases (show y=V.non from o2)
    cases r2
    exact ⟨EqAt.bool_none _,RcAt.bool_none _,RcNeAt.bool_none _⟩
   | bool c2 =>
    cases (show x=V.bl c1 from o1)
    cases r1
    cases (show y=V.bl c2 from o2)
    cases r2
    exact ⟨EqAt.bool_bool _ _,RcAt.bool_bool _ _,RcNeAt.bool_bool _ _⟩
   | int c2 =>
    cases (show x=V.bl c1 from o1)
    cases r1
    cases (show y=V.int c2 from o2)
    obtain ⟨tk2,rfl⟩:=r2
    exact ⟨EqAt.bool_int _ _ _,RcAt.bool_int _ _ _,RcNeAt.bool_int _ _ _⟩
   | str c2 =>
    cases (show x=V.bl c1 from o1)
    cases r1
    cases (show y=V.str c2 from o2)
    obtain ⟨tk2,rfl⟩:=r2
    exact ⟨EqAt.bool_str _ _ _,RcAt.bool_str _ _ _,RcNeAt.bool_str _ _ _⟩
   | list c2 =>
    cases (show x=V.bl c1 from o1)
    cases r1
    obtain ⟨p2,vs2,rfl,fz2,w2⟩:=o2.lst0
    cases r2
    obtain ⟨its2,rv2,pl2,_⟩:=I.list fz2.sq
    have hl2:=pl2.isList
    exact ⟨EqAt.bool_list _ hl2 hu,RcAt.bool_list _ hl2 hu,RcNeAt.bool_list _ hl2 hu⟩
   | tuple c2 =>
    cases (show x=V.bl c1 from o1)
    cases r1
    obtain ⟨p2,vs2,rfl,fz2,w2⟩:=o2.tup0
    cases r2
    obtain ⟨its2,rv2,pl2,_⟩:=I.tuple fz2.sq
    have hl2:s.heap.IsTuple p2 its2.toArray:=pl2
    exact ⟨EqAt.bool_tuple _ hl2 hu,RcAt.bool_tuple _ hl2 hu,RcNeAt.bool_tuple _ hl2 hu⟩
   | dict c2=>simp [ax] at hnb
  | int c1 =>
   cases b with
   | none =>
    cases (show x=V.int c1 from o1)
    obtain ⟨tk1,rfl⟩:=r1
    cases (show y=V.non from o2)
    cases r2
    exact ⟨EqAt.int_none _ _,RcAt.int_none _ _,RcNeAt.int_none _ _⟩
   | bool c2 =>
    cases (show x=V.int c1 from o1)
    obtain ⟨tk1,rfl⟩:=r1
    cases (show y=V.bl c2 from o2)
    cases r2
    exact ⟨EqAt.int_bool _ _ _,RcAt.int_bool _ _ _,RcNeAt.int_bool _ _ _⟩
   | int c2 =>
    cases (show x=V.int c1 from o1)
    obtain ⟨tk1,rfl⟩:=r1
    cases (show y=V.int c2 from o2)
    obtain ⟨tk2,rfl⟩:=r2
    exact ⟨EqAt.int_int _ _ _ _,RcAt.int_int _ _ _ _,RcNeAt.int_int _ _ _ _⟩
   | str c2 =>
    cases (show x=V.int c1 from o1)
    obtain ⟨tk1,rfl⟩:=r1
    cases (show y=V.str c2 from o2)
    obtain ⟨tk2,rfl⟩:=r2
    exact ⟨EqAt.int_str _ _ _ _,RcAt.int_str _ _ _ _,RcNeAt.int_str _ _ _ _⟩
   | list c2 =>
    cases (show x=V.int c1 from o1)
    obtain ⟨tk1,rfl⟩:=r1
    obtain ⟨p2,vs2,rfl,fz2,w2⟩:=o2.lst0
    cases r2
    obtain ⟨its2,rv2,pl2,_⟩:=I.list fz2.sq
    have hl2:=pl2.isList
    exact ⟨EqAt.int_list _ _ hl2 hu,RcAt.int_list _ _ hl2 hu,RcNeAt.int_list _ _ hl2 hu⟩
   | tuple c2 =>
    cases (show x=V.int c1 from o1)
    obtain ⟨tk1,rfl⟩:=r1
    obtain ⟨p2,vs2,rfl,fz2,w2⟩:=o2.tup0
    cases r2
    obtain ⟨its2,rv2,pl2,_⟩:=I.tuple fz2.sq
    have hl2:s.heap.IsTuple p2 its2.toArray:=pl2
    exact ⟨EqAt.int_tuple _ _ hl2 hu,RcAt.int_tuple _ _ hl2 hu,RcNeAt.int_tuple _ _ hl2 hu⟩
   | dict c2=>simp [ax] at hnb
  | str c1 =>
   cases b with
   | none =>
    cases (show x=V.str c1 from o1)
    obtain ⟨tk1,rfl⟩:=r1
    cases (show y=V.non from o2)
    cases r2
    exact ⟨EqAt.str_none _ _,RcAt.str_none _ _,RcNeAt.str_none _ _⟩
   | bool c2 =>
    cases (show x=V.str c1 from o1)
    obtain ⟨tk1,rfl⟩:=r1
    cases (show y=V.bl c2 from o2)
    cases r2
    exact ⟨EqAt.str_bool _ _ _,RcAt.str_bool _ _ _,RcNeAt.str_bool _ _ _⟩
   | int c2 =>
    cases (show x=V.str c1 from o1)
    obtain ⟨tk1,rfl⟩:=r1
    cases (show y=V.int c2 from o2)
    obtain ⟨tk2,rfl⟩:=r2
    exact ⟨EqAt.str_int _ _ _ _,RcAt.str_int _ _ _ _,RcNeAt.str_int _ _ _ _⟩
   | str c2 =>
    cases (show x=V.str c1 from o1)
    obtain ⟨tk1,rfl⟩:=r1
    cases (show y=V.str c2 from o2)
    obtain ⟨tk2,rfl⟩:=r2
    exact ⟨EqAt.str_str _ _ _ _,RcAt.str_str _ _ _ _,RcNeAt.str_str _ _ _ _⟩
   | list c2 =>
    cases (show x=V.str c1 from o1)
    obtain ⟨tk1,rfl⟩:=r1
    obtain ⟨p2,vs2,rfl,fz2,w2⟩:=o2.lst0
    cases r2
    obtain ⟨its2,rv2,pl2,_⟩:=I.list fz2.sq
    have hl2:=pl2.isList
    exact ⟨EqAt.str_list _ _ hl2 hu,RcAt.str_list _ _ hl2 hu,RcNeAt.str_list _ _ hl2 hu⟩
   | tuple c2 =>
    cases (show x=V.str c1 from o1)
    obtain ⟨tk1,rfl⟩:=r1
    obtain ⟨p2,vs2,rfl,fz2,w2⟩:=o2.tup0
    cases r2
    obtain ⟨its2,rv2,pl2,_⟩:=I.tuple fz2.sq
    have hl2:s.heap.IsTuple p2 its2.toArray:=pl2
    exact ⟨EqAt.str_tuple _ _ hl2 hu,RcAt.str_tuple _ _ hl2 hu,RcNeAt.str_tuple _ _ hl2 hu⟩
   | dict c2=>simp [ax] at hnb
  | list c1 =>
   simp only [fQ] at hdp
   omega
  | tuple c1 =>
   simp only [fQ] at hdp
   omega
  | dict c1=>simp [ax] at hna
 | succ n ih =>
  intro a b A x y v u hdp hna hnb o1 o2 r1 r2 hun
  have hu:A.units < cLine:=by omega
  have hu1:A.in1.units+n+1 < cLine:=by
   show A.units+1+n+1 < cLine
   omega
  cases a with
  | none =>
   cases b with
   | none =>
    cases (show x=V.non from o1)
    cases r1
    cases (show y=V.non from o2)
    cases r2
    exact ⟨EqAt.same _,RcAt.none_none,RcNeAt.none_none⟩
   | bool c2 =>
    cases (show x=V.non from o1)
    cases r1
    cases (show y=V.bl c2 from o2)
    cases r2
    exact ⟨EqAt.none_bool _,RcAt.none_bool _,RcNeAt.none_bool _⟩
   | int c2 =>
    cases (show x=V.non from o1)
    cases r1
    cases (show y=V.int c2 from o2)
    obtain ⟨tk2,rfl⟩:=r2
    exact ⟨EqAt.none_int _ _,RcAt.none_int _ _,RcNeAt.none_int _ _⟩
   | str c2 =>
    cases (show x=V.non from o1)
    cases r1
    cases (show y=V.str c2 from o2)
    obtain ⟨tk2,rfl⟩:=r2
    exact ⟨EqAt.none_str _ _,RcAt.none_str _ _,RcNeAt.none_str _ _⟩
   | list c2 =>
    cases (show x=V.non from o1)
    cases r1
    obtain ⟨p2,vs2,rfl,fz2,w2⟩:=o2.lst0
    cases r2
    obtain ⟨its2,rv2,pl2,_⟩:=I.list fz2.sq
    have hl2:=pl2.isList
    exact ⟨EqAt.none_list  hl2 hu,RcAt.none_list  hl2 hu,RcNeAt.none_list  hl2 hu⟩
   | tuple c2 =>
    cases (show x=V.non from o1)
    cases r1
    obtain ⟨p2,vs2,rfl,fz2,w2⟩:=o2.tup0
    cases r2
    obtain ⟨its2,rv2,pl2,_⟩:=I.tuple fz2.sq
    have hl2:s.heap.IsTuple p2 its2.toArray:=pl2
    exact ⟨EqAt.none_tuple  hl2 hu,RcAt.none_tuple  hl2 hu,RcNeAt.none_tuple  hl2 hu⟩
   | dict c2=>simp [ax] at hnb
  | bool c1 =>
   cases b with
   | none =>
    cases (show x=V.bl c1 from o1)
    cases r1
    cases (show y=V.non from o2)
    cases r2
    exact ⟨EqAt.bool_none _,RcAt.bool_none _,RcNeAt.bool_none _⟩
   | bool c2 =>
    cases (show x=V.bl c1 from o1)
    cases r1
    cases (show y=V.bl c2 from o2)
    cases r2
    exact ⟨EqAt.bool_bool _ _,RcAt.bool_bool _ _,RcNeAt.bool_bool _ _⟩
   | int c2 =>
    cases (show x=V.bl c1 from o1)
    cases r1
    cases (show y=V.int c2 from o2)
    obtain ⟨tk2,rfl⟩:=r2
    exact ⟨EqAt.bool_int _ _ _,RcAt.bool_int _ _ _,RcNeAt.bool_int _ _ _⟩
   | str c2 =>
    cases (show x=V.bl c1 from o1)
    cases r1
    cases (show y=V.str c2 from o2)
    obtain ⟨tk2,rfl⟩:=r2
    exact ⟨EqAt.bool_str _ _ _,RcAt.bool_str _ _ _,RcNeAt.bool_str _ _ _⟩
   | list c2 =>
    cases (show x=V.bl c1 from o1)
    cases r1
    obtain ⟨p2,vs2,rfl,fz2,w2⟩:=o2.lst0
    cases r2
    obtain ⟨its2,rv2,pl2,_⟩:=I.list fz2.sq
    have hl2:=pl2.isList
    exact ⟨EqAt.bool_list _ hl2 hu,RcAt.bool_list _ hl2 hu,RcNeAt.bool_list _ hl2 hu⟩
   | tuple c2 =>
    cases (show x=V.bl c1 from o1)
    cases r1
    obtain ⟨p2,vs2,rfl,fz2,w2⟩:=o2.tup0
    cases r2
    obtain ⟨its2,rv2,pl2,_⟩:=I.tuple fz2.sq
    have hl2:s.heap.IsTuple p2 its2.toArray:=pl2
    exact ⟨EqAt.bool_tuple _ hl2 hu,RcAt.bool_tuple _ hl2 hu,RcNeAt.bool_tuple _ hl2 hu⟩
   | dict c2=>simp [ax] at hnb
  | int c1 =>
   cases b with
   | none =>
    cases (show x=V.int c1 from o1)
    obtain ⟨tk1,rfl⟩:=r1
    cases (show y=V.non from o2)
    cases r2
    exact ⟨EqAt.int_none _ _,RcAt.int_none _ _,RcNeAt.int_none _ _⟩
   | bool c2 =>
    cases (show x=V.int c1 from o1)
    obtain ⟨tk1,rfl⟩:=r1
    cases (show y=V.bl c2 from o2)
    cases r2
    exact ⟨EqAt.int_bool _ _ _,RcAt.int_bool _ _ _,RcNeAt.int_bool _ _ _⟩
   | int c2 =>
    cases (show x=V.int c1 from o1)
    obtain ⟨tk1,rfl⟩:=r1
    cases (show y=V.int c2 from o2)
    obtain ⟨tk2,rfl⟩:=r2
    exact ⟨EqAt.int_int _ _ _ _,RcAt.int_int _ _ _ _,RcNeAt.int_int _ _ _ _⟩
   | str c2 =>
    cases (show x=V.int c1 from o1)
    obtain ⟨tk1,rfl⟩:=r1
    cases (show y=V.str c2 from o2)
    obtain ⟨tk2,rfl⟩:=r2
    exact ⟨EqAt.int_str _ _ _ _,RcAt.int_str _ _ _ _,RcNeAt.int_str _ _ _ _⟩
   | list c2 =>
    cases (show x=V.int c1 from o1)
    obtain ⟨tk1,rfl⟩:=r1
    obtain ⟨p2,vs2,rfl,fz2,w2⟩:=o2.lst0
    cases r2
    obtain ⟨its2,rv2,pl2,_⟩:=I.list fz2.sq
    have hl2:=pl2.isList
    exact ⟨EqAt.int_list _ _ hl2 hu,RcAt.int_list _ _ hl2 hu,RcNeAt.int_list _ _ hl2 hu⟩
   | tuple c2 =>
    cases (show x=V.int c1 from o1)
    obtain ⟨tk1,rfl⟩:=r1
    obtain ⟨p2,vs2,rfl,fz2,w2⟩:=o2.tup0
    cases r2
    obtain ⟨its2,rv2,pl2,_⟩:=I.tuple fz2.sq
    have hl2:s.heap.IsTuple p2 its2.toArray:=pl2
    exact ⟨EqAt.int_tuple _ _ hl2 hu,RcAt.int_tuple _ _ hl2 hu,RcNeAt.int_tuple _ _ hl2 hu⟩
   | dict c2=>simp [ax] at hnb
  | str c1 =>
   cases b with
   | none =>
    cases (show x=V.str c1 from o1)
    obtain ⟨tk1,rfl⟩:=r1
    cases (show y=V.non from o2)
    cases r2
    exact ⟨EqAt.str_none _ _,RcAt.str_none _ _,RcNeAt.str_none _ _⟩
   | bool c2 =>
    cases (show x=V.str c1 from o1)
    obtain ⟨tk1,rfl⟩:=r1
    cases (show y=V.bl c2 from o2)
    cases r2
    exact ⟨EqAt.str_bool _ _ _,RcAt.str_bool _ _ _,RcNeAt.str_bool _ _ _⟩
   | int c2 =>
    cases (show x=V.str c1 from o1)
    obtain ⟨tk1,rfl⟩:=r1
    cases (show y=V.int c2 from o2)
    obtain ⟨tk2,rfl⟩:=r2
    exact ⟨EqAt.str_int _ _ _ _,RcAt.str_int _ _ _ _,RcNeAt.str_int _ _ _ _⟩
   | str c2 =>
    cases (show x=V.str c1 from o1)
    obtain ⟨tk1,rfl⟩:=r1
    cases (show y=V.str c2 from o2)
    obtain ⟨tk2,rfl⟩:=r2
    exact ⟨EqAt.str_str _ _ _ _,RcAt.str_str _ _ _ _,RcNeAt.str_str _ _ _ _⟩
   | list c2 =>
    cases (show x=V.str c1 from o1)
    obtain ⟨tk1,rfl⟩:=r1
    obtain ⟨p2,vs2,rfl,fz2,w2⟩:=o2.lst0
    cases r2
    obtain ⟨its2,rv2,pl2,_⟩:=I.list fz2.sq
    have hl2:=pl2.isList
    exact ⟨EqAt.str_list _ _ hl2 hu,RcAt.str_list _ _ hl2 hu,RcNeAt.str_list _ _ hl2 hu⟩
   | tuple c2 =>
    cases (show x=V.str c1 from o1)
    obtain ⟨tk1,rfl⟩:=r1
    obtain ⟨p2,vs2,rfl,fz2,w2⟩:=o2.tup0
    cases r2
    obtain ⟨its2,rv2,pl2,_⟩:=I.tuple fz2.sq
    have hl2:s.heap.IsTuple p2 its2.toArray:=pl2
    exact ⟨EqAt.str_tuple _ _ hl2 hu,RcAt.str_tuple _ _ hl2 hu,RcNeAt.str_tuple _ _ hl2 hu⟩
   | dict c2=>simp [ax] at hnb
  | list c1 =>
   cases b with
   | none =>
    obtain ⟨p1,vs1,rfl,fz1,w1⟩:=o1.lst0
    cases r1
    obtain ⟨its1,rv1,pl1,_⟩:=I.list fz1.sq
    have hl1:=pl1.isList
    cases (show y=V.non from o2)
    cases r2
    exact ⟨EqAt.list_none  hl1 hu,RcAt.list_none  hl1 hu,RcNeAt.list_none  hl1 hu⟩
   | bool c2 =>
    obtain ⟨p1,vs1,rfl,fz1,w1⟩:=o1.lst0
    cases r1
    obtain ⟨its1,rv1,pl1,_⟩:=I.list fz1.sq
    have hl1:=pl1.isList
    cases (show y=V.bl c2 from o2)
    cases r2
    exact ⟨EqAt.list_bool _ hl1 hu,RcAt.list_bool _ hl1 hu,RcNeAt.list_bool _ hl1 hu⟩
   | int c2 =>
    obtain ⟨p1,vs1,rfl,fz1,w1⟩:=o1.lst0
    cases r1
    obtain ⟨its1,rv1,pl1,_⟩:=I.list fz1.sq
    have hl1:=pl1.isList
    cases (show y=V.int c2 from o2)
    obtain ⟨tk2,rfl⟩:=r2
    exact ⟨EqAt.list_int _ _ hl1 hu,RcAt.list_int _ _ hl1 hu,RcNeAt.list_int _ _ hl1 hu⟩
   | str c2 =>
    obtain ⟨p1,vs1,rfl,fz1,w1⟩:=o1.lst0
    cases r1
    obtain ⟨its1,rv1,pl1,_⟩:=I.list fz1.sq
    have hl1:=pl1.isList
    cases (show y=V.str c2 from o2)
    obtain ⟨tk2,rfl⟩:=r2
    exact ⟨EqAt.list_str _ _ hl1 hu,RcAt.list_str _ _ hl1 hu,RcNeAt.list_str _ _ hl1 hu⟩
   | list c2 =>
    obtain ⟨p1,vs1,rfl,fz1,w1⟩:=o1.lst0
    cases r1
    obtain ⟨its1,rv1,pl1,_⟩:=I.list fz1.sq
    have hl1:=pl1.isList
    obtain ⟨p2,vs2,rfl,fz2,w2⟩:=o2.lst0
    cases r2
    obtain ⟨its2,rv2,pl2,_⟩:=I.list fz2.sq
    have hl2:=pl2.isList
    have dl:eE c1≤n:=by simp only [fQ] at hdp; omega
    have nd1:aQ c1=true:=by simpa [ax] using hna
    have nd2:aQ c2=true:=by simpa [ax] using hnb
    have el:=kP (A:=A.in1) w1 w2 rv1 rv2 fun j a b x y v u e1 e2 q1 q2 q3 q4=>(ih a b A.in1 x y v u (Nat.le_trans (gn e1) dl) (cA nd1 e1) (cA nd2 e2) q1 q2 q3 q4 hu1).1
    have l1:=rv1.length
    have l2:=rv2.length
    have m1:=w1.len
    have m2:=w2.len
    have rc:RcAt A s (.ref p1) (.ref p2) (cH c1 c2)∧RcNeAt A s (.ref p1) (.ref p2) (!cH c1 c2):=by
     by_cases hz:c1.length=c2.length
     ·have hs1:its1.toArray.size=its2.toArray.size:=by rw [List.size_toArray,List.size_toArray]; omega
      have hs2:its1.toArray.size=c1.length:=by rw [List.size_toArray]; omega
      have z1:=RcAt.lists hl1 hl2 hs1 hu el
      have z2:=RcNeAt.lists hl1 hl2 hs1 hu el
      rw [hs2,hW hz] at z1 z2
      exact ⟨z1,z2⟩
     ·have hs1:(its1.toArray.size != its2.toArray.size)=true:=by rw [List.size_toArray,List.size_toArray,bne_iff_ne]; omega
      rw [hV hz]
      exact ⟨RcAt.lists_lengths hl1 hl2 hs1 hu,RcNeAt.lists_lengths hl1 hl2 hs1 hu⟩
    have pe:peq (.list c1) (.list c2)=cH c1 c2:=by simp only [peq]
    refine ⟨?_,by rw [pe]; exact rc.1,by rw [pe]; exact rc.2⟩
    by_cases hp:p1=p2
    ·subst hp
     have:=Ow.inj I _ _ o1 o2 hna
     cases this
     rw [hX _ hna]
     exact EqAt.same _
    ·rw [pe]
     exact EqAt.of_refs hp rc.1
   | tuple c2 =>
    obtain ⟨p1,vs1,rfl,fz1,w1⟩:=o1.lst0
    cases r1
    obtain ⟨its1,rv1,pl1,_⟩:=I.list fz1.sq
    have hl1:=pl1.isList
    obtain ⟨p2,vs2,rfl,fz2,w2⟩:=o2.tup0
    cases r2
    obtain ⟨its2,rv2,pl2,_⟩:=I.tuple fz2.sq
    have hl2:s.heap.IsTuple p2 its2.toArray:=pl2
    exact ⟨EqAt.list_tuple hl1 hl2 hu,RcAt.list_tuple hl1 hl2 hu,RcNeAt.list_tuple hl1 hl2 hu⟩
   | dict c2=>simp [ax] at hnb
  | tuple c1 =>
   cases b with
   | none =>
    obtain ⟨p1,vs1,rfl,fz1,w1⟩:=o1.tup0
    cases r1
    obtain ⟨its1,rv1,pl1,_⟩:=I.tuple fz1.sq
    have hl1:s.heap.IsTuple p1 its1.toArray:=pl1
    cases (show y=V.non from o2)
    cases r2
    exact ⟨EqAt.tuple_none  hl1 hu,RcAt.tuple_none  hl1 hu,RcNeAt.tuple_none  hl1 hu⟩
   | bool c2 =>
    obtain ⟨p1,vs1,rfl,fz1,w1⟩:=o1.tup0
    cases r1
    obtain ⟨its1,rv1,pl1,_⟩:=I.tuple fz1.sq
    have hl1:s.heap.IsTuple p1 its1.toArray:=pl1
    cases (show y=V.bl c2 from o2)
    cases r2
    exact ⟨EqAt.tuple_bool _ hl1 hu,RcAt.tuple_bool _ hl1 hu,RcNeAt.tuple_bool _ hl1 hu⟩
   | int c2 =>
    obtain ⟨p1,vs1,rfl,fz1,w1⟩:=o1.tup0
    cases r1
    obtain ⟨its1,rv1,pl1,_⟩:=I.tuple fz1.sq
    have hl1:s.heap.IsTuple p1 its1.toArray:=pl1
    cases (show y=V.int c2 from o2)
    obtain ⟨tk2,rfl⟩:=r2
    exact ⟨EqAt.tuple_int _ _ hl1 hu,RcAt.tuple_int _ _ hl1 hu,RcNeAt.tuple_int _ _ hl1 hu⟩
   | str c2 =>
    obtain ⟨p1,vs1,rfl,fz1,w1⟩:=o1.tup0
    cases r1
    obtain ⟨its1,rv1,pl1,_⟩:=I.tuple fz1.sq
    have hl1:s.heap.IsTuple p1 its1.toArray:=pl1
    cases (show y=V.str c2 from o2)
    obtain ⟨tk2,rfl⟩:=r2
    exact ⟨EqAt.tuple_str _ _ hl1 hu,RcAt.tuple_str _ _ hl1 hu,RcNeAt.tuple_str _ _ hl1 hu⟩
   | list c2 =>
    obtain ⟨p1,vs1,rfl,fz1,w1⟩:=o1.tup0
    cases r1
    obtain ⟨its1,rv1,pl1,_⟩:=I.tuple fz1.sq
    have hl1:s.heap.IsTuple p1 its1.toArray:=pl1
    obtain ⟨p2,vs2,rfl,fz2,w2⟩:=o2.lst0
    cases r2
    obtain ⟨its2,rv2,pl2,_⟩:=I.list fz2.sq
    have hl2:=pl2.isList
    exact ⟨EqAt.tuple_list hl1 hl2 hu,RcAt.tuple_list hl1 hl2 hu,RcNeAt.tuple_list hl1 hl2 hu⟩
   | tuple c2 =>
    obtain ⟨p1,vs1,rfl,fz1,w1⟩:=o1.tup0
    cases r1
    obtain ⟨its1,rv1,pl1,_⟩:=I.tuple fz1.sq
    have hl1:s.heap.IsTuple p1 its1.toArray:=pl1
    obtain ⟨p2,vs2,rfl,fz2,w2⟩:=o2.tup0
    cases r2
    obtain ⟨its2,rv2,pl2,_⟩:=I.tuple fz2.sq
    have hl2:s.heap.IsTuple p2 its2.toArray:=pl2
    have dl:eE c1≤n:=by simp only [fQ] at hdp; omega
    have nd1:aQ c1=true:=by simpa [ax] using hna
    have nd2:aQ c2=true:=by simpa [ax] using hnb
    have el:=kP (A:=A.in1) w1 w2 rv1 rv2 fun j a b x y v u e1 e2 q1 q2 q3 q4=>(ih a b A.in1 x y v u (Nat.le_trans (gn e1) dl) (cA nd1 e1) (cA nd2 e2) q1 q2 q3 q4 hu1).1
    have l1:=rv1.length
    have l2:=rv2.length
    have m1:=w1.len
    have m2:=w2.len
    have rc:RcAt A s (.ref p1) (.ref p2) (cH c1 c2)∧RcNeAt A s (.ref p1) (.ref p2) (!cH c1 c2):=by
     have z1:=RcAt.tuples hl1 hl2 hu el
     have z2:=RcNeAt.tuples hl1 hl2 hu el
     have ez:((List.range (min its1.toArray.size its2.toArray.size)).all (eAt c1 c2) && its1.toArray.size == its2.toArray.size)=cH c1 c2:=by
      rw [List.size_toArray,List.size_toArray]
      by_cases hz:c1.length=c2.length
      ·have h3:its1.length=its2.length:=by omega
       have h4:min its1.length its2.length=c1.length:=by omega
       rw [h4,hW hz,h3,beq_self_eq_true,Bool.and_true]
      ·have h3:(its1.length == its2.length)=false:=by rw [beq_eq_false_iff_ne]; omega
       rw [h3,Bool.and_false,hV hz]
     rw [ez] at z1 z2
     exact ⟨z1,z2⟩
    have pe:peq (.tuple c1) (.tuple c2)=cH c1 c2:=by simp only [peq]
    refine ⟨?_,by rw [pe]; exact rc.1,by rw [pe]; exact rc.2⟩
    by_cases hp:p1=p2
    ·subst hp
     have:=Ow.inj I _ _ o1 o2 hna
     cases this
     rw [hX _ hna]
     exact EqAt.same _
    ·rw [pe]
     exact EqAt.of_refs hp rc.1
   | dict c2=>simp [ax] at hnb
  | dict c1=>simp [ax] at hna
end
def eqD (a b:D):Option D:=grd (ax a=true∧ax b=true∧fQ a≤60) (.bool (peq a b))
def neD (a b:D):Option D:=grd (ax a=true∧ax b=true∧fQ a≤60) (.bool (!peq a b))
section
variable {X:Cx} {K:PySem.W.Frag}
theorem m5 (hK:X.K=K) (hu:X.A.units+64 < cLine):OpR X (compareOp .Eq) (rF2 K eqD 3):=by
 subst hK
 intro pins s σ H x y v u Q I rx ry ⟨O,a,b,t,oa,ob,hd,hg,k⟩
 obtain ⟨⟨c1,c2,c3⟩,rfl⟩:=bq hg
 exact (wx I 60 a b X.A x y v u c3 c1 c2 oa ob rx ry (by omega)).2.1 X.prog X.w _ _ ⟨.bl _,H,I,rfl,k _ H NoA .refl rfl⟩
theorem m4 (hK:X.K=K) (hu:X.A.units+64 < cLine):OpR X (compareOp .NotEq) (rF2 K neD 3):=by
 subst hK
 intro pins s σ H x y v u Q I rx ry ⟨O,a,b,t,oa,ob,hd,hg,k⟩
 obtain ⟨⟨c1,c2,c3⟩,rfl⟩:=bq hg
 exact (wx I 60 a b X.A x y v u c3 c1 c2 oa ob rx ry (by omega)).2.2 X.prog X.w _ _ ⟨.bl _,H,I,rfl,k _ H NoA .refl rfl⟩
end
end L2
namespace L2
open PySem PySem.Spec PyProof.Rows
theorem wE {K:PySem.W.Frag} {dps:List Nat} {dr n:Nat} {F:List D→Option (D × En)} {vs:List V} {H:Hp} {Q:VK} {E:XK} (hn:dps.length=n) (h:spF K dps dr F vs H Q E):vs.length=n:=by
 obtain ⟨Ox,ts,R,r,outs,e,_⟩:=h
 have:=e.l2
 rw [List.length_map] at this
 omega
section
variable {X:Cx} {K:PySem.W.Frag} {p:Bool} {J:Jd} {ds ds0 ds1 ds2 ds3 ds':List Nat} {d d' d1 d2 d3:Nat} {a b c e:Expr} {st:Stmt} {f f1 f2 f3:ME} {m:MS} {pos p2:Pos}
theorem xt (h:PS X st (tFS K J ds ds2 m)) (hd:leD ds1 ds2=true):PS X st (tFS K J ds ds1 m):=h.imp fun _ _ _=>oz hd
def cB (g g':D→D→Option D) (f1 f2 f3:ME):ME:=fun en=>(f1 en).bind fun r=>(f2 r.2).bind fun q=>(g r.1 q.1).bind fun t=>match t with
 | .bool true=>(f3 q.2).bind fun z=>(g' q.1 z.1).map fun t=>(t,z.2)
 | .bool false=>some (.bool false,q.2)
 | _=>none
theorem me {g g':D→D→Option D} {σ:St} {H:Hp} {Q:VK} (h:tF K p ds ds1 3 (cB g g' f1 f2 f3) σ H Q) :
  kh (rF2 K g 3) (rF2 K g' 3) (tF K p ds ds0 d1 f1) (tF K p ds0 ds1 d2 f2) (tF K p ds1 ds1 d3 f3) σ H Q:=by
 obtain ⟨Ox,en,R,t,en',e,hf,k⟩:=h
 unfold cB at hf
 obtain ⟨⟨t1,en1⟩,h1,hf⟩:=Option.bind_eq_some_iff.mp hf
 obtain ⟨⟨t2,en2⟩,h2,hf⟩:=Option.bind_eq_some_iff.mp hf
 obtain ⟨tb,h3,hf⟩:=Option.bind_eq_some_iff.mp hf
 refine two (p1:=p) (p2:=p) e h1 h2 fun x y H2 R2 F1 F2 P o1 o2=>?_
 rw [Bool.and_self] at P
 have oy:=Ow.letgo P (fun _=>.inr) o2
 refine ⟨Own R2 Ox,t1,t2,tb,Ow.letgo P (fun _=>.inl) o1,oy,P.doms,h3,fun v3 H3 F3 n3 o3=>?_⟩
 have P3:=P.fin n3
 cases tb with
 | bool bb =>
  refine ⟨bb,o3,?_⟩
  cases bb with
  | false =>
   cases hf
   exact k _ H3 R2 NoA (P3.less fun _ z=>z.elim) rfl
  | true =>
   obtain ⟨⟨t4,en4⟩,h4,hf⟩:=Option.bind_eq_some_iff.mp hf
   obtain ⟨t5,h5,hf⟩:=Option.map_eq_some_iff.mp hf
   cases hf
   have P30:=P3.less (F':=NoA) fun _ z=>z.elim
   refine ⟨Ox,en2,R2,t4,en4,P30.env0,h4,fun v4 H4 R4 F4 P4 o4=>?_⟩
   have P34:=P30.after P4
   rw [Bool.and_self] at P34
   have oy3:Ow K (Own R2 Ox) H3 t2 0 y NoA:=Ow.mv (G:=NoA) ⟨fun a o q _=>n3.1 a o q,fun a z=>.inl z⟩ t2 (fun _ z=>z) oy
   have oy4:Ow K (Own R4 Ox) H4 t2 0 y NoA:=by
    refine Ow.mv (G:=NoA) ⟨fun a o q z=>P4.keep a o q fun i zi=>?_,fun a z=>?_⟩ t2 (fun _ z=>z) oy3
    ·rcases z with z | z
     ·exact z (.inl ⟨i,zi⟩)
     ·exact z
    ·rcases z with z | z
     ·exact (P4.own a (.inr z)).imp .inl id
     ·exact .inl (.inr z)
   exact ⟨Own R4 Ox,t2,t4,_,oy4,Ow.letgo P4 (fun _ z=>z) o4,P4.doms,h5,fun v5 H5 F5 n5 o5=>k v5 H5 R4 F5 (P34.fin n5) (jd ▸ o5)⟩
 | _=>cases hf
theorem qc {op op':CmpOp} {g g':D→D→Option D} (ho:OpR X (compareOp op) (rF2 K g 3)) (ho':OpR X (compareOp op') (rF2 K g' 3)) (ha:PE X a (tF K p ds ds0 d1 f1)) (hb:PE X b (tF K p ds0 ds1 d2 f2)) (hc:PE X c (tF K p ds1 ds1 d3 f3))
  (hm:lastMarks [op,op'] [b,c]=false):PE X (.Compare a [op,op'] [b,c] pos) (tF K p ds ds1 3 (cB g g' f1 f2 f3)):=(pA ho ho' ha hb hc hm).imp fun _ _ _=>me
theorem pX {op op':CmpOp} {g g':D→D→Option D} (ho:OpR X (compareOp op) (rF2 K g 3)) (ho':OpR X (compareOp op') (rF2 K g' 3)) (ha:PE X a (tF K p ds ds0 d1 f1)) (hb:PE X b (tF K p ds0 ds1 d2 f2)) (hc:PE X c (tF K p ds1 ds1 d3 f3))
  (hm:lastMarks [op,op'] [b,c]=false):PT X (.Compare a [op,op'] [b,c] pos) (tFT K p ds ds1 (tV (cB g g' f1 f2 f3))) :=
 (pk ho ho' ha hb hc hm).imp fun σ H Q h=>by
  obtain ⟨Ox,en,R,t,en',e,hf,k⟩:=iT (d:=3) h
  exact me ⟨Ox,en,R,t,en',e,hf,k⟩
abbrev MO:=En→Option (Option Int × En)
def tFO (K:PySem.W.Frag) (p:Bool) (ds ds':List Nat) (f:MO):TO:=fun σ H Q=>∃ Ox en R o en',EnvOk K ds Ox H σ en R∧f en=some (o,en')∧∀ H' R',Post K p ds' Ox σ H en R en' H' R' NoA→Q o H'
def aN:MO:=fun en=>some (none,en)
def az (f:ME):MO:=fun en=>(f en).bind fun r=>match r.1 with
 | .int i=>some (some i,r.2)
 | _=>none
theorem PO.imp {X:Cx} {e:Option Expr} {t t':TO} (h:PO X e t) (hi:∀ σ H Q,t' σ H Q→t σ H Q):PO X e t':=fun pins s σ H Q I hw=>h pins s σ H Q I (hi _ _ _ hw)
theorem xB:PO X none (tFO K p ds ds aN):=po_none.imp fun σ H Q ⟨Ox,en,R,o,en',e,hf,k⟩=>by
 cases hf
 exact k H R (Post.refl e)
theorem xz (h:PE X e (tF K p ds ds1 d f)):PO X (some e) (tFO K p ds ds1 (az f)):=(wQ h).imp fun σ H Q ⟨Ox,en,R,o,en',e,hf,k⟩=>by
 unfold az at hf
 obtain ⟨⟨t1,en1⟩,h1,hf⟩:=Option.bind_eq_some_iff.mp hf
 refine ⟨Ox,en,R,t1,en1,e,h1,fun v H' R' F P o=>?_⟩
 cases t1 with
 | int i=>cases hf; exact ⟨i,o,k H' R' (P.less fun _ z=>z.elim)⟩
 | _=>cases hf
def rFs (K:PySem.W.Frag) (g:D→Option Int→Option Int→Option D) (d:Nat):V→Option Int→Option Int→Hp→VK→Prop:=fun x lo hi H Q=>∃ (O:AS) (a t:D),Ow K O H a 0 x NoA∧(∀ a,O a→∃ o,H a=some o)∧g a lo hi=some t∧∀ v H' F,NewTo H H' F→Ow K (U F O) H' t d v F→Q v H'
def eSl (g:D→Option Int→Option Int→Option D) (f:ME) (lo hi:MO):ME:=fun en=>(f en).bind fun r=>(lo r.2).bind fun l=>(hi l.2).bind fun h=>(g r.1 l.1 h.1).map fun t=>(t,h.2)
variable {lo hi:MO}
theorem Ow.past0 {H1 H2:Hp} {R1 R2:Nat→AS} {Ox:AS} {σ:St} {en1 en2:En} {F2:AS} {t:D} {v:V} (P2:Post K p ds2 Ox σ H1 en1 R1 en2 H2 R2 F2) (h:Ow K (Own R1 Ox) H1 t 0 v NoA):Ow K (Own R2 Ox) H2 t 0 v NoA:=by
 refine Ow.mv (G:=NoA) ⟨fun a o q z=>P2.keep a o q fun i zi=>?_,fun a z=>?_⟩ t (fun _ z=>z) h
 ·rcases z with z | z
  ·exact z (.inl ⟨i,zi⟩)
  ·exact z
 ·rcases z with z | z
  ·exact (P2.own a (.inr z)).imp .inl id
  ·exact .inl (.inr z)
theorem Db {g:D→Option Int→Option Int→Option D} {σ:St} {H:Hp} {Q:VK} (h:tF K p ds ds3 d (eSl g f lo hi) σ H Q):tSl (rFs K g d) (tF K p ds ds1 d1 f) (tFO K p ds1 ds2 lo) (tFO K p ds2 ds3 hi) σ H Q:=by
 obtain ⟨Ox,en,R,t,en',e,hf,k⟩:=h
 unfold eSl at hf
 obtain ⟨⟨t1,en1⟩,h1,hf⟩:=Option.bind_eq_some_iff.mp hf
 obtain ⟨⟨l,en2⟩,h2,hf⟩:=Option.bind_eq_some_iff.mp hf
 obtain ⟨⟨u,en3⟩,h3,hf⟩:=Option.bind_eq_some_iff.mp hf
 obtain ⟨t',h4,hf⟩:=Option.map_eq_some_iff.mp hf
 cases hf
 refine ⟨Ox,en,R,t1,en1,e,h1,fun v H1 R1 F1 P1 o1=>?_⟩
 have o0:=Ow.letgo P1 (fun _ z=>z) o1
 refine ⟨Ox,en1,R1,l,en2,P1.env0,h2,fun H2 R2 P2=>?_⟩
 refine ⟨Ox,en2,R2,u,en3,P2.env0,h3,fun H3 R3 P3=>?_⟩
 have P:=(P1.after P2).after P3
 rw [Bool.and_self,Bool.and_self] at P
 exact ⟨Own R3 Ox,t1,t,(o0.past0 P2).past0 P3,P3.doms,h4,fun v4 H4 F4 n4 o4=>k v4 H4 R3 F4 (P.fin n4) (jd ▸ o4)⟩
theorem SlR.imp {r r':V→Option Int→Option Int→Hp→VK→Prop} (h:SlR X r) (hi:∀ x lo hi H Q,r' x lo hi H Q→r x lo hi H Q):SlR X r':=fun pins s σ H x v vl vu lo hi' sl Q I rx hs pl pu q=>h pins s σ H x v vl vu lo hi' sl Q I rx hs pl pu (hi _ _ _ _ _ q)
theorem p7 {g:D→Option Int→Option Int→Option D} {elo ehi:Option Expr} (hr:SlR X (rFs K g d)) (he:PE X e (tF K p ds ds1 d1 f)) (hl:PO X elo (tFO K p ds1 ds2 lo)) (hu:PO X ehi (tFO K p ds2 ds3 hi)):PE X (.Subscript e (.Slice elo ehi none p2) pos) (tF K p ds ds3 d (eSl g f lo hi)) :=
 (pv hr he hl hu).imp fun _ _ _=>Db
def bD {α:Type} (xs:List α) (lo hi:Option Int):List α:=(xs.drop (HT.sIx xs.length 0 lo)).take (HT.sIx xs.length xs.length hi - HT.sIx xs.length 0 lo)
def ka:D→Option Int→Option Int→Option D
 | .list ts,lo,hi=>some (.list (bD ts lo hi))
 | _,_,_=>none
theorem ma (hK:X.K=K):SlR X (rFs K ka 1):=(C7 hK).imp fun x lo hi H Q ⟨O,a,t,oa,hd,hg,k⟩=>by
 cases a with
 | list ts =>
  cases hg
  obtain ⟨a,vs,e1,f1,w1⟩:=oa.lst0
  refine ⟨a,vs,e1,f1.sq,fun p hp=>?_⟩
  have w2:Ows K O H (bD ts lo hi) 0 (eR vs lo hi) NoA:=by
   unfold bD eR
   rw [w1.len]
   exact (w1.drop _).take _
  exact k _ _ _ (ci hp hd w2).1 (ci hp hd w2).2
 | _=>cases hg
def aV:D→Option Int→Option Int→Option D
 | .str z,lo,hi=>grd (z.length≤sizeLine) (.str ⟨(cw z.cps.toList lo hi).toArray⟩)
 | _,_,_=>none
theorem aL:SlR X (rFs K aV 3):=sl_str.imp fun x lo hi H Q ⟨O,a,t,oa,hd,hg,k⟩=>by
 cases a with
 | str z =>
  obtain ⟨c,rfl⟩:=bq hg
  exact ⟨z,oa,c,k _ H NoA .refl rfl⟩
 | _=>cases hg
end
end L2
namespace L2
open PySem PySem.Spec PyProof.Rows
def kEq:D→D→Bool
 | .int a,.int b=>a == b
 | .str a,.str b=>a == b
 | _,_=>false
theorem iN (a b:Key):kEq (kD a) (kD b)=decide (a=b):=by
 cases a with
 | inl i=>cases b with
  | inl j=>rw [nX]; rfl
  | inr j=>rw [nW]; rfl
 | inr i=>cases b with
  | inl j=>rw [nV]; rfl
  | inr j =>
   rw [nU]
   show (i == j)=_
   by_cases h:i=j
   ·subst h; simp
   ·rw [decide_eq_false h,beq_eq_false_iff_ne]; exact h
def kOf:D→Option Key
 | .int i=>some (.inl i)
 | .str x=>some (.inr x)
 | _=>none
theorem kK {a:D} {q:Key} (h:kOf a=some q):a=kD q:=by
 cases a <;> cases h <;> rfl
theorem iD {K:PySem.W.Frag} {O:AS} {H:Hp} {a:D} {q:Key} {d:Nat} {v:V} {F:AS} (h:kOf a=some q) (o:Ow K O H a d v F):v=kV q:=by
 cases a with
 | int i=>cases h; exact o
 | str i=>cases h; exact o
 | _=>cases h
def bK (ks:List (D × D)) (q:D):Option D:=(ks.find? fun kv=>kEq kv.1 q).map (·.2)
def gm (ks:List (D × D)) (q t:D):List (D × D):=if ks.any (fun kv=>kEq kv.1 q) then ks.map (fun kv=>if kEq kv.1 q then (kv.1,t) else kv) else ks++[(q,t)]
section
variable {K:PySem.W.Frag} {O:AS} {H:Hp} {d:Nat}
theorem Owd.look:∀ {ks:List (D × D)} {vs:List (Key × V)} {F:AS} (q:Key),Owd K O H ks d vs F→(∃ t v,bK ks (kD q)=some t∧cF vs q=some v∧Ow K O H t d v F)∨(bK ks (kD q)=none∧cF vs q=none)
 | [],_,_,q,h=>by rw [show _=[] from h]; exact .inr ⟨rfl,rfl⟩
 | (k,t) :: ks,_,F,q,h=>by
  obtain ⟨q',v,r,F1,F2,e,e2,s1,s2,_,h4,h5⟩:=h
  subst e e2
  by_cases hq:q'=q
  ·subst hq
   refine .inl ⟨t,v,?_,fy rfl,Ow.grow (fun _ z=>z) t s1 h4⟩
   unfold bK
   rw [List.find?_cons,iN,decide_eq_true rfl]
   rfl
  ·have e1:bK ((kD q',t) :: ks) (kD q)=bK ks (kD q):=by
    unfold bK
    rw [List.find?_cons,iN,decide_eq_false hq]
   have e2:cF ((q',v) :: r) q=cF r q:=fA hq
   rw [e1,e2]
   rcases Owd.look q h5 with ⟨t',v',a1,a2,a3⟩ | z
   ·exact .inl ⟨t',v',a1,a2,Ow.grow (fun _ z=>z) t' s2 a3⟩
   ·exact .inr z
theorem Owd.any:∀ {ks:List (D × D)} {vs:List (Key × V)} {F:AS} (q:Key),Owd K O H ks d vs F→ks.any (fun kv=>kEq kv.1 (kD q))=vs.any (fun kv=>decide (kv.1=q))
 | [],_,_,q,h=>by rw [show _=[] from h]; rfl
 | (k,t) :: ks,_,F,q,h=>by
  obtain ⟨q',v,r,F1,F2,e,e2,_,_,_,_,h5⟩:=h
  subst e e2
  rw [List.any_cons,List.any_cons,iN,Owd.any q h5]
theorem Owd.len:∀ {ks:List (D × D)} {vs:List (Key × V)} {F:AS},Owd K O H ks d vs F→vs.length=ks.length
 | [],_,_,h=>by rw [show _=[] from h]; rfl
 | (k,t) :: ks,_,F,h=>by
  obtain ⟨q',v,r,F1,F2,e,e2,_,_,_,_,h5⟩:=h
  rw [e,List.length_cons,List.length_cons,h5.len]
theorem Owd.rep0 {t:D} {v:V} {q:Key} (ht:Ow K O H t 0 v NoA):∀ {ks:List (D × D)} {vs:List (Key × V)},Owd K O H ks 0 vs NoA→Owd K O H (ks.map fun kv=>if kEq kv.1 (kD q) then (kv.1,t) else kv) 0 (vs.map fun kv=>if kv.1=q then (kv.1,v) else kv) NoA
 | [],_,h=>by rw [show _=[] from h]; rfl
 | (k,u) :: ks,_,h=>by
  obtain ⟨q',w,r,F1,F2,e,e2,_,_,_,h4,h5⟩:=h
  subst e e2
  rw [List.map_cons,List.map_cons]
  have ih:=Owd.rep0 (q:=q) ht (Owd.any0 ks h5)
  dsimp only
  rw [iN]
  by_cases hq:q'=q
  ·rw [if_pos hq,if_pos (decide_eq_true hq)]
   exact ⟨q',v,_,NoA,NoA,rfl,rfl,fun _ z=>z,fun _ z=>z,fun _ z=>z.elim,ht,ih⟩
  ·rw [if_neg hq,if_neg (by rw [decide_eq_false hq]; exact Bool.false_ne_true)]
   exact ⟨q',w,_,NoA,NoA,rfl,rfl,fun _ z=>z,fun _ z=>z,fun _ z=>z.elim,Ow.any0 u h4,ih⟩
theorem Owd.snoc0 {t:D} {v:V} {q:Key} (ht:Ow K O H t 0 v NoA):∀ {ks:List (D × D)} {vs:List (Key × V)},Owd K O H ks 0 vs NoA→Owd K O H (ks++[(kD q,t)]) 0 (vs++[(q,v)]) NoA
 | [],_,h=>by
  rw [show _=[] from h]
  exact ⟨q,v,[],NoA,NoA,rfl,rfl,fun _ z=>z,fun _ z=>z,fun _ z=>z.elim,ht,rfl⟩
 | (k,u) :: ks,_,h=>by
  obtain ⟨q',w,r,F1,F2,e,e2,_,_,_,h4,h5⟩:=h
  subst e e2
  exact ⟨q',w,_,NoA,NoA,rfl,rfl,fun _ z=>z,fun _ z=>z,fun _ z=>z.elim,Ow.any0 u h4,Owd.snoc0 ht (Owd.any0 ks h5)⟩
theorem Owd.put0 {t:D} {v:V} {q:Key} {ks:List (D × D)} {vs:List (Key × V)} (h:Owd K O H ks 0 vs NoA) (ht:Ow K O H t 0 v NoA):Owd K O H (gm ks (kD q) t) 0 (cG vs q v) NoA:=by
 unfold gm cG
 rw [h.any q]
 by_cases hq:(vs.any fun kv=>decide (kv.1=q))=true
 ·rw [if_pos hq,if_pos hq]
  exact Owd.rep0 ht h
 ·rw [if_neg hq,if_neg hq]
  exact Owd.snoc0 ht h
theorem Owd.past {ks:List (D × D)} {vs:List (Key × V)} {F:AS} {l:Addr} {o:HO} {O':AS} (ho:∀ a,O' a→O a) (hl:O l) (hf:∀ b,F b→b≠l) (h:Owd K O H ks d vs F):Owd K O' (upd H l o) ks d vs F:=by
 refine Owd.mv (G:=F) ⟨fun a u q z=>?_,fun a z=>.inl (ho a z)⟩ ks (fun _ z=>z) h
 rw [aP]
 ·exact q
 ·intro za
  subst za
  rcases z with z | z
  ·exact z hl
  ·exact hf a z rfl
def noT:List (D × D)→Bool
 | (.tuple _,_) :: _=>false
 | _=>true
theorem Ow.dict0 {ks:List (D × D)} {v:V} (hk:noT ks=true) (h:Ow K O H (.dict ks) 0 v NoA):∃ a vs,v=.ref a∧H a=some (.dK vs)∧Owd K O H ks 0 vs NoA:=by
 obtain ⟨a,vs,e,⟨_,h1,_,h2⟩ | ⟨z,_⟩ | ⟨_,kk,b,h1,_⟩⟩:=h
 ·exact ⟨a,vs,e,h1,h2⟩
 ·exact absurd rfl z
 ·rw [h1] at hk
  cases hk
theorem Ow.dict1 {ks:List (D × D)} {v:V} {F:AS} (hd:d≠0) (h:Ow K O H (.dict ks) d v F):∃ a vs,v=.ref a∧H a=some (.dK vs)∧F a∧∃ F':AS,(∀ b,F' b→F b∧b≠a)∧Owd K O H ks (dn d) vs F':=by
 obtain ⟨a,vs,e,⟨z,_⟩ | ⟨_,h1,h2,h3⟩ | ⟨z,_⟩⟩:=h
 ·exact absurd z hd
 ·exact ⟨a,vs,e,h1,h2,h3⟩
 ·exact absurd z hd
end
def dH:ME:=eC (.dict [])
def DQ:D→D→Option D
 | .dict ks,q=>(kOf q).bind fun _=>bK ks q
 | _,_=>none
def dIn:D→D→Option D
 | q,.dict ks=>if noT ks=true then (kOf q).map fun _=>.bool (bK ks q).isSome else none
 | _,_=>none
def BX:D→D→Option D
 | q,.dict ks=>if noT ks=true then (kOf q).map fun _=>.bool (!(bK ks q).isSome) else none
 | _,_=>none
section
variable {X:Cx} {K:PySem.W.Frag} {p:Bool} {J:Jd} {ds ds0 ds1 ds2 ds':List Nat} {d d' d1 d2:Nat} {a b c e o k:Expr} {f f1 f2 fk fe:ME} {pos px spos:Pos} {i:Nat} {σ:St} {H:Hp} {Q:VK} {Dn:Ends}
theorem xK:PE X (.Dict [] [] pos) (tF K p ds ds 3 dH):=pe_dnewK.imp fun σ H Q ⟨Ox,en,R,t,en',e,hf,k⟩=>by
 cases hf
 intro l hl
 have n:NewTo H (upd H l (.dK [])) (fun b=>b=l):=bu hl
 exact k (.ref l) _ R _ (Post.new e n.1 n.2) ⟨l,[],rfl,.inr (.inl ⟨by decide,aG,rfl,NoA,fun _ z=>z.elim,rfl⟩)⟩
def Dv (i:Nat) (f:ME):ME:=fun en=>(en[i]?).join.bind fun _=>(f en).bind fun r=>match (r.2[i]?).join with
 | some (.dict ks)=>(kOf r.1).bind fun _=>(bK ks r.1).map fun t=>(t,r.2)
 | _=>none
theorem CN {neg:Bool} (h:tF K p ds ds2 3 (e2 (if neg then BX else dIn) f1 f2) σ H Q):(if neg then wD else Ao) (tF K p ds ds1 d1 f1) (tF K p ds1 ds2 d2 f2) σ H Q:=by
 obtain ⟨Ox,en,R,t,en',e,hf,k⟩:=h
 unfold e2 at hf
 obtain ⟨⟨t1,en1⟩,h1,hf⟩:=Option.bind_eq_some_iff.mp hf
 obtain ⟨⟨t2,en2⟩,h2,hf⟩:=Option.bind_eq_some_iff.mp hf
 obtain ⟨t',h3,hf⟩:=Option.map_eq_some_iff.mp hf
 cases hf
 have go:∀ (b:Bool→Bool),(∃ q ks,t2=.dict ks∧noT ks=true∧kOf t1=some q∧t=.bool (b (bK ks t1).isSome))→tF K p ds ds1 d1 f1 σ H fun y H1=>tF K p ds1 ds2 d2 f2 σ H1 fun x H2=>∃ a o,x=.ref a∧DGet H2 a y o∧Q (.bl (b o.isSome)) H2:=fun b ⟨q,ks,e1,hk,e2,e3⟩=>by
  subst e1 e3
  refine two (p1:=p) (p2:=p) e h1 h2 fun x y H2 R2 F1 F2 P o1 o2=>?_
  rw [Bool.and_self] at P
  obtain ⟨a,vs,ex,ha,ow⟩:=(Ow.letgo P (fun _=>.inr) o2).dict0 hk
  rw [kK e2] at k
  rcases ow.look q with ⟨t',v,a1,a2,a3⟩ | ⟨z1,z2⟩
  ·rw [a1] at k
   refine ⟨a,some v,ex,?_,k _ H2 R2 NoA (P.less fun _ z=>z.elim) rfl⟩
   rw [← a2,iD e2 o1]
   exact DGet.k ha
  ·rw [z1] at k
   refine ⟨a,none,ex,?_,k _ H2 R2 NoA (P.less fun _ z=>z.elim) rfl⟩
   rw [← z2,iD e2 o1]
   exact DGet.k ha
 cases neg with
 | true =>
  refine go (fun b=>!b) ?_
  cases t2 with
  | dict ks =>
   have h4:(if noT ks=true then (kOf t1).map (fun _=>PyData.bool (!(bK ks t1).isSome)) else none)=some t:=h3
   by_cases hk:noT ks=true
   ·rw [if_pos hk] at h4
    obtain ⟨q,hq,e⟩:=Option.map_eq_some_iff.mp h4
    exact ⟨q,ks,rfl,hk,hq,e.symm⟩
   ·rw [if_neg hk] at h4; cases h4
  | _=>cases t1 <;> cases h3
 | false =>
  refine go (fun b=>b) ?_
  cases t2 with
  | dict ks =>
   have h4:(if noT ks=true then (kOf t1).map (fun _=>PyData.bool (bK ks t1).isSome) else none)=some t:=h3
   by_cases hk:noT ks=true
   ·rw [if_pos hk] at h4
    obtain ⟨q,hq,e⟩:=Option.map_eq_some_iff.mp h4
    exact ⟨q,ks,rfl,hk,hq,e.symm⟩
   ·rw [if_neg hk] at h4; cases h4
  | _=>cases t1 <;> cases h3
theorem PC.imp {op:CmpOp} {t t':TE} (h:PC X op a b t) (hi:∀ σ H Q,t' σ H Q→t σ H Q):PC X op a b t':=fun pins s σ H Q I hw=>h pins s σ H Q I (hi _ _ _ hw)
theorem Bm (hu:X.A.units+1 < cLine) (ha:PE X a (tF K p ds ds1 d1 f1)) (hb:PE X b (tF K p ds1 ds2 d2 f2)) (h1:behindInMarks .In b=false):PT X (.Compare a [.In] [b] pos) (tFT K p ds ds2 (tV (e2 dIn f1 f2))) :=
 (AE ((AR hu ha hb).imp fun _ _ _=>CN (neg:=false)) h1).imp fun _ _ _=>iT
def gE (i:Nat) (fk fe:ME):MS:=fun en=>(fe en).bind fun r=>match (r.2[i]?).join with
 | some _=>(fk r.2).bind fun q=>match (q.2[i]?).join with
  | some (.dict ks)=>(kOf q.1).bind fun _=>if ks.length < sizeLine then some (.nx (q.2.set i (some (.dict (gm ks q.1 r.1))))) else none
  | _=>none
 | none=>none
theorem xr (hd:ds2[i]?=some 1) (h:tFS K J ds ds2 (gE i fk fe) Dn σ H):v9 (fB i) (tF K false ds1 ds2 d2 fk) (tF K false ds ds1 0 fe) Dn σ H:=by
 obtain ⟨Ox,en,R,fl,e,hf,k⟩:=h
 unfold gE at hf
 obtain ⟨⟨t1,en1⟩,h1,hf⟩:=Option.bind_eq_some_iff.mp hf
 dsimp only at hf
 split at hf
 case h_2=>cases hf
 next tt h0 =>
 obtain ⟨⟨t2,en2⟩,h2,hf⟩:=Option.bind_eq_some_iff.mp hf
 dsimp only at hf
 split at hf
 case h_2=>cases hf
 next ks h3 =>
 obtain ⟨q,hq,hf⟩:=Option.bind_eq_some_iff.mp hf
 by_cases hlen:ks.length < sizeLine
 case neg=>rw [if_neg hlen] at hf; cases hf
 rw [if_pos hlen] at hf
 cases hf
 refine ⟨Ox,en,R,t1,en1,e,h1,fun x H1 R1 F1 P1 o1=>?_⟩
 obtain ⟨v0,d0,a1,_,_⟩:=P1.env.at_ i tt (bf h0)
 refine ⟨v0,a1,?_⟩
 refine ⟨U F1 Ox,en1,R1,t2,en2,P1.env,h2,fun y H2 R2 F2 P2 o2=>?_⟩
 have P:=P1.trans P2
 have o1':=Ow.over P1.env P2 o1
 have w1:=Ow.letgo P (fun _=>.inl) o1'
 obtain ⟨v',d',b1,b2,b3⟩:=P.env.at_ i _ (bf h3)
 rw [a1] at b1
 cases b1
 rw [hd] at b2
 cases b2
 obtain ⟨l,vs,el,hl,hr,F',hf',ow⟩:=b3.dict1 (by decide)
 have eq:=iD hq o2
 subst eq
 refine ⟨l,_,el,DPut.k hl (by rw [ow.len]; exact hlen),?_⟩
 have hi:i < en2.length:=(List.getElem?_eq_some_iff.mp (bf h3)).1
 have gG:∀ a,(fun a=>R2 i a) a→R2 i a∨U F1 F2 a:=fun a z=>.inl z
 have sub:=jc (i:=i) (R1:=R2) (Ox:=Ox) (G:=fun a=>R2 i a) (F':=NoA) (F:=U F1 F2) gG (fun _ z=>z.elim)
 have Ol:Own R2 (U (U F1 F2) Ox) l:=.inl ⟨i,hr⟩
 have PS:=P.slot (G:=fun a=>R2 i a) (F':=NoA) (o2:=.dK (cG vs q x)) (t:=.dict (gm ks t2 t1)) hr hi a1 hd gG (fun _ z=>z.elim) (fun _ _ z=>z) ?_
 ·exact k σ _ _ PS.s
 refine ⟨l,cG vs q x,el,.inr (.inl ⟨by decide,aG,hr,NoA,fun _ z=>z.elim,?_⟩)⟩
 rw [kK hq]
 refine Owd.put0 (Owd.past sub Ol (fun _ z=>z.elim) (Owd.any0 ks ow)) ?_
 refine Ow.past (O:=Own R2 Ox) (fun a z=>?_) (.inl ⟨i,hr⟩) (fun _ z=>z.elim) w1
 rcases z with ⟨j,z⟩ | z | z
 ·by_cases hj:j=i
  ·rw [if_pos hj] at z; exact .inl ⟨i,z⟩
  ·rw [if_neg hj] at z; exact .inl ⟨j,z⟩
 ·exact z.elim
 ·exact .inr z
theorem p0 {x:Str} (hu:X.A.units+1 < cLine) (hN:X.N[i]?=some x) (hv:Vis X.env.scope x) (he:PE X e (tF K false ds ds1 0 fe)) (hk:PE X k (tF K false ds1 ds2 d2 fk)) (h1:ds2[i]?=some 1)
  (hdb:(x == ("__debug__" : Str))=false) (hcd:(x == ("__classdict__" : Str))=false) (hs:swapsWith e (some (.Subscript (.Name x px) k spos)) pos.line X.env=pure false) :
  PS X (.Assign [.Subscript (.Name x px) k spos] e pos) (tFS K J ds ds2 (gE i fk fe)):=(wN hu (dP hN hv hdb hcd) hk he hs).imp fun _ _ _=>xr h1
end
end L2
namespace L2
open PySem PySem.Spec PyProof.Rows
def evP:List (ME × ME)→En→Option (List (D × D) × En)
 | [],en=>some ([],en)
 | (fk,fv) :: r,en=>(fk en).bind fun x=>(fv x.2).bind fun y=>(evP r y.2).bind fun z=>(kOf x.1).map fun _=>((x.1,y.1) :: z.1,z.2)
def AY (ks:List (D × D)):List (D × D):=ks.foldl (fun acc kv=>gm acc kv.1 kv.2) []
def CU (fs:List (ME × ME)):ME:=fun en=>(evP fs en).bind fun r=>if r.1.length≤15 then some (.dict (AY r.1),r.2) else none
section
variable {X:Cx} {K:PySem.W.Frag} {p:Bool} {J:Jd} {ds ds0 ds1 ds2 ds':List Nat} {d d' d1 d2:Nat} {a b c e o k:Expr} {es:List Expr} {f f1 f2 fk fe:ME} {fa:MA} {sh:Sh} {pos px spos:Pos} {i j:Nat} {σ:St} {H:Hp} {Q:VK} {Dn:Ends}
def trs (K:PySem.W.Frag) (p:Bool) (ds:List Nat) (fs:List (ME × ME)):List (TE × TE):=fs.map fun q=>(tF K p ds ds 3 q.1,tF K p ds ds 0 q.2)
theorem wP {R R1:Nat→AS} {Ox:AS} {en en1:En} {H1:Hp} {F:AS} (P:Post K p ds1 Ox σ H en R en1 H1 R1 F):Mv (Own R Ox) (Own R1 Ox) NoA H H1:=by
 refine ⟨fun a o q z=>P.keep a o q fun i zi=>?_,fun a z=>?_⟩
 ·rcases z with z | z
  ·exact z (.inl ⟨i,zi⟩)
  ·exact z
 ·rcases z with z | z
  ·exact (P.own a (.inr z)).imp .inl id
  ·exact .inl (.inr z)
def DE (i j:Nat) (fa:MA):MS:=fun en=>(fa en).bind fun r=>match r.1 with
 | [.inl a,.inl b]=>some (.nx ((r.2.set i (some a)).set j (some b)))
 | _=>none
end
section
variable {X:Cx} {K:PySem.W.Frag}
end
end L2
namespace L2
open PySem PySem.Spec PyProof.Rows
section
variable {X:Cx} {K:PySem.W.Frag} {O:AS} {H:Hp} {ts us:List D} {vs ws:List V} {x y:V} {d:Nat} {Q:VK}
def og:List D→Option (List Int)
 | []=>some []
 | .int i :: r=>(og r).map (i :: ·)
 | _ :: _=>none
def DD:List D→Option D
 | [.list ts]=>(og ts).map fun ns=>.int ns.sum
 | _=>none
end
end L2
namespace L2
open PySem PySem.Spec PyProof.Rows
section
variable {X:Cx} {K:PySem.W.Frag} {p:Bool} {ds ds1:List Nat} {O:AS} {H:Hp} {σ:St} {d:Nat} {f:ME} {i:Nat} {e:Expr} {Q:VK}
end
end L2
namespace L2
open PySem PySem.Spec PyProof.Rows
section
variable {X:Cx} {K:PySem.W.Frag} {p:Bool} {ds ds1:List Nat} {d:Nat} {fa:MA} {sh:Sh} {O O1:AS} {H0 H:Hp} {ts us:List D} {vs ws:List V} {a b:Addr}
def o7 (ts us:List D):List D:=List.zipWith (fun x y=>.tuple [x,y]) ts us
def DB (fa:MA):MI:=fun en=>(fa en).bind fun r=>match r.1 with
 | [.inl (.list ts),.inl (.list us)]=>some (o7 ts us,r.2)
 | _=>none
end
end L2
namespace L2
open PySem PySem.Spec PyProof.Rows
section
variable {X:Cx} {K:PySem.W.Frag} {p:Bool} {ds ds1:List Nat} {d1:Nat} {e:Expr} {f:ME}
end
end L2
namespace L2
open PySem PySem.Spec PyProof.Rows
section
variable {X:Cx} {K:PySem.W.Frag} {p p1 p2:Bool} {ds ds1 ds2:List Nat} {d d1:Nat} {e:Expr} {f:ME} {fa:MA} {sh:Sh} {σ:St} {H:Hp} {Q:VK}
def eM (g:Str→List D→Option D) (f:ME) (fa:MA):ME:=fun en=>(f en).bind fun r=>match r.1 with
 | .str z=>(fa r.2).bind fun q=>(be q.1).bind fun ts=>(g z ts).map fun t=>(t,q.2)
 | _=>none
structure MtF (K:PySem.W.Frag) (r:V→List V→Hp→VK→Prop) (g:Str→List D→Option D):Prop where
 h:∀ {O:AS} {H:Hp} {z:Str} {ts:List D} {xs:List V} {t:D} {Q:VK},Ows K O H ts 0 xs NoA→g z ts=some t→(∀ v,Ow K O H t 3 v NoA→Q v H)→r (.str z) xs H Q
theorem BQ {r:V→List V→Hp→VK→Prop} {g:Str→List D→Option D} (hr:MtF K r g) (hs:bE 0 sh=true) (h:tF K (p1 && p2) ds ds2 3 (eM g f fa) σ H Q):tBM K "str" r (tF K p1 ds ds1 d1 f) (tFA K p2 ds1 ds2 sh fa) σ H Q:=by
 obtain ⟨Ox,en,R,t,en',e,hf,k⟩:=h
 unfold eM at hf
 obtain ⟨⟨t1,en1⟩,h1,hf⟩:=Option.bind_eq_some_iff.mp hf
 dsimp only at hf
 split at hf
 case h_2=>cases hf
 next z =>
 obtain ⟨⟨as,en2⟩,h2,hf⟩:=Option.bind_eq_some_iff.mp hf
 obtain ⟨ts,h3,hf⟩:=Option.bind_eq_some_iff.mp hf
 obtain ⟨t',h4,hf⟩:=Option.map_eq_some_iff.mp hf
 cases hf
 refine ⟨Ox,en,R,.str z,en1,e,h1,fun x H1 R1 F1 P1 o1=>?_⟩
 have ex:x=.str z:=o1
 subst ex
 refine ⟨rfl,Ox,en1,R1,as,en2,P1.env0,h2,fun vs H2 R2 F P2 o=>?_⟩
 have P:=P1.after P2
 obtain ⟨F',s1,s2⟩:=OwA.ows hs h3 o
 have o2:Ows K (Own R2 Ox) H2 ts 0 vs F':=s2 _ (fun a z=>z.imp id .inr) fun a z z2=>by
  rcases z2 with ⟨i,z2⟩ | z2
  ·exact absurd (.inl z) (P.env.dx i a z2)
  ·exact absurd z2 (P.fx a z)
 refine hr.h (Ows.any0 ts o2) h4 fun v ov=>k v H2 R2 NoA (P.less fun _ z=>z.elim) ?_
 rw [cW]
 exact ov
def joinD:Str→List D→Option D
 | sep,[.list ts]=>(strsOf ts).bind fun ys=>if sep.length≤16∧(ys.map (·.length)).sum+ys.length≤1048576 then some (.str (Txt.join sep ys)) else none
 | sep,[.tuple ts]=>(strsOf ts).bind fun ys=>if sep.length≤16∧(ys.map (·.length)).sum+ys.length≤1048576 then some (.str (Txt.join sep ys)) else none
 | _,_=>none
where strsOf:List D→Option (List Str)
 | []=>some []
 | .str z :: r=>(strsOf r).map (z :: ·)
 | _ :: _=>none
theorem h8 {O:AS}:∀ {ts:List D} {ys:List Str} {xs:List V},joinD.strsOf ts=some ys→Ows K O H ts 0 xs NoA→xs=ys.map V.str
 | [],ys,xs,h,o=>by
  cases h
  exact o
 | t :: ts,ys,xs,h,o=>by
  obtain ⟨v,r,F1,F2,e,_,_,_,h4,h5⟩:=o
  cases t with
  | str z =>
   obtain ⟨ys',h6,rfl⟩:=Option.map_eq_some_iff.mp h
   have e4:v=.str z:=h4
   rw [e,e4,h8 h6 (Ows.any0 ts h5)]
   rfl
  | _=>cases h
theorem fm:MtF K (wd K) joinD where
 h:=fun {O H z ts xs t Q} o hg q=>by
  unfold joinD at hg
  split at hg
  ·next us =>
   obtain ⟨ys,h1,h2⟩:=Option.bind_eq_some_iff.mp hg
   by_cases hc:z.length≤16∧(ys.map (·.length)).sum+ys.length≤1048576
   case neg=>rw [if_neg hc] at h2; cases h2
   rw [if_pos hc] at h2
   cases h2
   obtain ⟨v,r,F1,F2,e,_,_,_,h4,h5⟩:=o
   have e5:r=[]:=h5
   subst e5 e
   obtain ⟨a,vs,rfl,fz,w⟩:=(Ow.any0 _ h4).lst0
   have e6:=h8 h1 w
   subst e6
   exact ⟨z,ys,a,rfl,rfl,.inl fz.sq,hc.1,hc.2,q _ rfl⟩
  ·next us =>
   obtain ⟨ys,h1,h2⟩:=Option.bind_eq_some_iff.mp hg
   by_cases hc:z.length≤16∧(ys.map (·.length)).sum+ys.length≤1048576
   case neg=>rw [if_neg hc] at h2; cases h2
   rw [if_pos hc] at h2
   cases h2
   obtain ⟨v,r,F1,F2,e,_,_,_,h4,h5⟩:=o
   have e5:r=[]:=h5
   subst e5 e
   obtain ⟨a,vs,rfl,fz,w⟩:=(Ow.any0 _ h4).tup0
   have e6:=h8 h1 w
   subst e6
   exact ⟨z,ys,a,rfl,rfl,.inr fz.sq,hc.1,hc.2,q _ rfl⟩
  ·cases hg
def Dm:Str→List D→Option D
 | z,[.str y]=>some (.bool (Txt.startswith z y))
 | _,_=>none
def DC:Str→List D→Option D
 | z,[.str y]=>some (.bool (Txt.endswith z y))
 | _,_=>none
theorem xG {o:Expr} {es:List Expr} {name:Str} {id:String} {apos cpos:Pos} {r:V→List V→Hp→VK→Prop} {g:Str→List D→Option D} (hK:X.K=K) (slot:Slot "str" name id) (hty:typeOf (.builtin id)=pure (.type "method_descriptor")) (hm:MtR X id r) (hr:MtF K r g) (ho:PE X o (tF K p ds ds1 d1 f)) (ha:PA X (e :: es) (tFA K p ds1 ds2 sh fa))
  (hsh:bE 0 sh=true) (hbase:attributeBase o name X.env (eval o X.env)=eval o X.env)
  (hfew:((backTo cpos (starEach (e :: es) X.env)).all (fun x=>!x.1) && (backToKw cpos (keywordEach [] X.env)).all (fun x=>x.1.isSome)
   && decide ((e :: es).length+([]:List Keyword).length+(if ([]:List Keyword).isEmpty then 0 else 1) < 30))=true)
  (hline:(apos.endLine == cpos.line)=true) (hs:starEach (e :: es) X.env=(false,eval e X.env) :: starEach es X.env) (hplain:(backTo cpos (starEach es X.env)).any (·.1)=false) :
  PE X (.Call (.Attribute o name apos) (e :: es) [] cpos) (tF K p ds ds2 3 (eM g f fa)):=by
 subst hK
 exact (mB PySem.F.plainAttrs_str slot hty hm ho ha hbase hfew hline hs hplain).imp fun _ _ _ h=>BQ hr hsh (by rw [Bool.and_self]; exact h)
end
end L2
namespace L2
open PySem PySem.Spec PyProof.Rows
section
variable {X:Cx} {K:PySem.W.Frag} {pins:List (Addr × Obj)} {σ:St} {H:Hp} {s:Shared} {O:AS}
mutual
theorem Ow.reads (I:Inv X pins σ H s):∀ (t:D) {v:V} {u:Value},ax t=true→Ow X.K O H t 0 v NoA→RelV v u→∃ as,Reads s.heap u t as
 | .none,_,_,_,h,r=>by
  cases (show _=V.non from h)
  cases r
  exact ⟨_,.none⟩
 | .bool b,_,_,_,h,r=>by
  cases (show _=V.bl b from h)
  cases r
  exact ⟨_,.bool _⟩
 | .int i,_,_,_,h,r=>by
  cases (show _=V.int i from h)
  obtain ⟨t,rfl⟩:=r
  exact ⟨_,.int _ _⟩
 | .str x,_,_,_,h,r=>by
  cases (show _=V.str x from h)
  obtain ⟨t,rfl⟩:=r
  exact ⟨_,.str _ _⟩
 | .list ts,_,_,hn,h,r=>by
  obtain ⟨p,vs,rfl,fz,w⟩:=h.lst0
  cases r
  obtain ⟨its,rv,⟨o,n,e1,e2,_,e3⟩,_⟩:=I.list fz.sq
  obtain ⟨as,ra⟩:=Ows.reads I ts (by simpa [ax] using hn) w rv
  exact ⟨_,.list e1 e2 e3 (by simpa using ra)⟩
 | .tuple ts,_,_,hn,h,r=>by
  obtain ⟨p,vs,rfl,fz,w⟩:=h.tup0
  cases r
  obtain ⟨its,rv,⟨o,e1,e2,n,e3⟩,_⟩:=I.tuple fz.sq
  obtain ⟨as,ra⟩:=Ows.reads I ts (by simpa [ax] using hn) w rv
  exact ⟨_,.tuple e1 e2 e3 (by simpa using ra)⟩
 | .dict _,_,_,hn,_,_=>by simp [ax] at hn
theorem Ows.reads (I:Inv X pins σ H s):∀ (ts:List D) {vs:List V} {us:List Value},aQ ts=true→Ows X.K O H ts 0 vs NoA→Vals vs us→∃ as,ReadsAll s.heap us ts as
 | [],_,_,_,h,r=>by
  cases (show _=[] from h)
  cases r
  exact ⟨_,.nil⟩
 | t :: ts,_,_,hn,h,r=>by
  obtain ⟨v,q,F1,F2,e,_,_,_,h4,h5⟩:=h
  subst e
  have hn':ax t=true∧aQ ts=true:=by simpa [aQ] using hn
  cases r with
  | cons ru rr =>
   obtain ⟨as,a1⟩:=Ow.reads I t hn'.1 (Ow.any0 t h4) ru
   obtain ⟨bs,a2⟩:=Ows.reads I ts hn'.2 (Ows.any0 ts h5) rr
   exact ⟨_,.cons a1 a2⟩
end
mutual
theorem fI:∀ t:D,ax t=true→t.hasDict=false
 | .none,_=>by simp only [PyData.hasDict]
 | .bool _,_=>by simp only [PyData.hasDict]
 | .int _,_=>by simp only [PyData.hasDict]
 | .str _,_=>by simp only [PyData.hasDict]
 | .list ts,h=>by simp only [PyData.hasDict]; exact eK ts (by simpa [ax] using h)
 | .tuple ts,h=>by simp only [PyData.hasDict]; exact eK ts (by simpa [ax] using h)
 | .dict _,h=>by simp [ax] at h
theorem eK:∀ ts:List D,aQ ts=true→PyData.hasDictAll ts=false
 | [],_=>by simp only [PyData.hasDictAll]
 | t :: ts,h=>by
  have h':ax t=true∧aQ ts=true:=by simpa [aQ] using h
  simp only [PyData.hasDictAll,fI t h'.1,eK ts h'.2,Bool.or_self]
end
def mw:List D→Option D
 | [.dict []]=>some (.str "{}")
 | [t]=>grd (ax t=true∧t.showable=true∧t.depth≤60∧t.shown.length≤sizeLine) (.str t.shown)
 | _=>none
theorem xA (hK:X.K=K) (hg:X.A.guards=some []) (hu:X.A.units+64 < cLine):CallR X (.builtin "repr") (rFn K mw 3):=by
 subst hK
 intro pins s σ H xs us Q I r ⟨O,as,t,oa,hd,hr,k⟩
 unfold mw at hr
 split at hr
 ·cases hr
  obtain ⟨v,rfl,o⟩:=oa.one
  obtain ⟨a,vs,rfl,g1,g2⟩:=o.dict0 rfl
  have e:vs=[]:=g2
  subst e
  exact nc hg hu pins s σ H _ us Q I r ⟨_,_,rfl,.inr ⟨a,rfl,g1,rfl⟩,k _ H NoA .refl rfl⟩
 ·next d hne =>
  obtain ⟨⟨c1,c2,c3,c4⟩,rfl⟩:=bq hr
  obtain ⟨v,rfl,o⟩:=oa.one
  obtain ⟨u,rfl,ru⟩:=bJ r
  obtain ⟨as,rd⟩:=Ow.reads I d c1 o ru
  have q:=k (.str d.shown) H NoA .refl rfl
  cases d with
  | none =>
   cases (show v=V.non from o)
   cases ru
   have e:(PyData.none).shown=("None" : Str):=PyData.shown_none
   rw [e] at q
   exact P.repr_of_none ⟨.str _,H,I.tok _,⟨_,rfl⟩,q⟩
  | bool b =>
   cases (show v=V.bl b from o)
   cases ru
   have e:(PyData.bool b).shown=(if b then "True" else "False" : Str):=PyData.shown_bool b
   rw [e] at q
   exact P.repr_of_bool ⟨.str (if b then "True" else "False"),H,I.tok _,⟨_,rfl⟩,q⟩
  | int i =>
   cases (show v=V.int i from o)
   obtain ⟨t,rfl⟩:=ru
   have e:(PyData.int i).shown=((toString i:String):Str):=PyData.shown_int i
   rw [e] at q
   have hl:i.natAbs.log2 < 1920:=by simpa [PyData.showable] using c2
   exact P.repr_of_int hl ⟨.str _,H,I.tok _,⟨_,rfl⟩,q⟩
  | str y =>
   cases (show v=V.str y from o)
   obtain ⟨t,rfl⟩:=ru
   have e:(PyData.str y).shown=reprText y:=PyData.shown_str y
   rw [e] at q c4
   exact P.repr_of_str ⟨.str _,H,I.tok _,⟨_,rfl⟩,q⟩ c4
  | list ts =>
   obtain ⟨p,vs,rfl,_,_⟩:=o.lst0
   cases ru
   exact repr_of_reads' rd c2 (PyData.noDict_hsm (fI _ c1)) hg (by omega) (fun _ _ e=>e) (fun h' u tk hk=>⟨.str _,H,I.kept (t':=tk) hk,⟨_,rfl⟩,q⟩) c4
  | tuple ts =>
   obtain ⟨p,vs,rfl,_,_⟩:=o.tup0
   cases ru
   exact repr_of_reads' rd c2 (PyData.noDict_hsm (fI _ c1)) hg (by omega) (fun _ _ e=>e) (fun h' u tk hk=>⟨.str _,H,I.kept (t':=tk) hk,⟨_,rfl⟩,q⟩) c4
  | dict _=>simp [ax] at c1
 ·cases hr
end
section
open PySem.SeqAt Classical
variable {X:Cx} {K:PySem.W.Frag} {pins:List (Addr × Obj)} {σ:St} {H:Hp} {s:Shared} {O:AS}
end
end L2
namespace L2
open PySem PySem.Spec PyProof.Rows
section
variable {K:PySem.W.Frag} {O:AS} {H:Hp}
end
abbrev MP:=En→Option (List Nat × En)
section
variable {X:Cx} {K:PySem.W.Frag} {p p1 p2:Bool} {J:Jd} {ds ds1 ds2:List Nat} {H:Hp} {σ:St} {d d1 d2 i m:Nat} {f fk fe:ME} {mp:MP} {e b o:Expr} {Q:VK}
end
end L2
namespace L2
open PySem PySem.Spec PyProof.Rows
end L2
namespace L2
open PySem PySem.Spec PyProof.Rows
def bc (f:Nat→Str):Nat→List Str
 | 0=>[]
 | i+1=>if (bc f i).any (· == f i)=true then bc f i else bc f i++[f i]
theorem er (f:Nat→Str) (i:Nat):bc f (i+1)=if (bc f i).any (· == f i)=true then bc f i else bc f i++[f i]:=rfl
theorem gK (f:Nat→Str):∀ i,(bc f i).length≤i
 | 0=>Nat.le_refl _
 | i+1=>by
  have h:=gK f i
  rw [er]
  by_cases q:(bc f i).any (· == f i)=true
  ·rw [if_pos q]; omega
  ·rw [if_neg q,List.length_append]; show _+1≤_; omega
theorem pG (f:Nat→Str) (i:Nat) (x:Str):(bc f (i+1)).any (· == x)=((bc f i).any (· == x) || decide (x=f i)):=by
 rw [er]
 by_cases q:(bc f i).any (· == f i)=true
 ·rw [if_pos q]
  by_cases e:x=f i
  ·rw [e,q,decide_eq_true rfl]; rfl
  ·rw [decide_eq_false e,Bool.or_false]
 ·rw [if_neg q,List.any_append]
  congr 1
  by_cases e:x=f i
  ·rw [e,decide_eq_true rfl]; simp
  ·rw [decide_eq_false e]
   simp only [List.any_cons,List.any_nil,Bool.or_false,beq_eq_false_iff_ne]
   exact fun z=>e z.symm
theorem kC (f:Nat→Str) (i:Nat):(bc f (i+1)).length=if (bc f i).any (· == f i) then (bc f i).length else (bc f i).length+1:=by
 rw [er]
 by_cases q:(bc f i).any (· == f i)=true
 ·rw [if_pos q,if_pos q]
 ·rw [if_neg q,if_neg q,List.length_append]; rfl
abbrev SetS (P:Program) (w:World) (h:Heap) (a:Addr) (f:Nat→Str) (n:Nat):Prop:=h.SetOf (strKind P w) a (fun k=>(bc f n).any (· == k)) (bc f n).length
section
variable {P:Program} {w:World} {A:Around} {R:Result→Shared→Prop} {I:Addr} {fp wr:List Addr} {G:Array GenState→Array GenState→Prop} {n:Nat} {Pi:Nat→Value→Prop} {St:Nat→Shared→Prop}
theorem SetS.mv {h h':Heap} {a:Addr} {f:Nat→Str} {n:Nat} (x:SetS P w h a f n) (k:∀ o,h.get? a=some o→h'.get? a=some o):SetS P w h' a f n:=by
 obtain ⟨o,es,ep,t,e,r⟩:=x
 exact ⟨o,es,ep,t,k o e,r⟩
theorem ph (W:WalksS P w A.in1 I fp wr G n Pi St) (a:Addr) (ha:a ∉ fp) (f:Nat→Str) (hf:∀ i v,Pi i v→∃ t,v=.str (f i) t) (hb:n+1 < scanBound) :
  ∀ (k i:Nat) (s:Shared),n - i=k→i≤n→St i s→SetS P w s.heap a f i →
   (∀ s',Moved (a :: wr) G s s'→SetS P w s'.heap a f n→R (.ok (.ret .none)) s')→codeAny (model P w) A (.builtin "set.update.loop" ⟨[.ref a,.ref I],[]⟩) R s:=by
 have hw:a ∉ wr:=fun h=>ha (W.sub _ h)
 intro k
 induction k with
 | zero =>
  intro i s hk hi st hS q
  obtain rfl:i=n:=by omega
  refine codeAny_builtin PyProof.Rows.F.entry_set_update_loop ?_
  rw [Around.under_plainId PyProof.Rows.F.plain_set_update_loop _]
  show wpAny _ _ (pyNext (.ref I) >>= _) _ _ s
  exact wpAny_bind (W.done s _ _ st fun s1 m=>wpAny_pure (q s1 (m.mono fun b h=>List.mem_cons_of_mem _ h) (hS.mv fun o e=>m.heap a o hw e)))
 | succ k ih =>
  intro i s hk hi st hS q
  have lt:i < n:=by omega
  refine codeAny_builtin PyProof.Rows.F.entry_set_update_loop ?_
  rw [Around.under_plainId PyProof.Rows.F.plain_set_update_loop _]
  show wpAny _ _ (pyNext (.ref I) >>= _) _ _ s
  refine wpAny_bind (W.item i s _ _ lt st fun v s1 hv st1 m=>?_)
  obtain ⟨t,rfl⟩:=hf i v hv
  have h1:SetS P w s1.heap a f i:=hS.mv fun o e=>m.heap a o hw e
  show wpAny _ _ (holding [Value.str (f i) t] (setAdd a (.str (f i) t)) >>= _) _ _ s1
  refine wpAny_bind (wpAny_holding ?_)
  unfold setAdd
  refine wpAny_holding (wpAny_bind ((strKind P w).pyHash (k:=f i) (strKind_is P w (f i) t) ?_))
  have le:=gK f i
  refine wpAny_setAddHashed_of (knd:=strKind P w) (s:={ s1 with toks:=s1.toks+1 }) (strKind_is P w (f i) t) rfl h1 (by omega) fun h2 sb h3=>?_
  have h4:SetS P w h2 a f (i+1):=SetOf_congr h3 (fun x=>(pG f i x).symm) (kC f i).symm
  refine wpAny_pure ⟨plainId_quiet PyProof.Rows.F.plain_set_update_loop _,ih (i+1) _ (by omega) lt (W.frame _ s1 _ _ st1 (Nat.le_succ _) fun b hb o e=>?_) h4 fun s3 m3 h5=>?_⟩
  ·rw [sb.2 b fun z=>ha (z ▸ hb)]; exact e
  ·refine q s3 (Moved.trans W.gtrans ((m.mono fun b h=>List.mem_cons_of_mem _ h).then_heap (Nat.le_succ _) fun b o hb e=>?_) m3) h5
   rw [sb.2 b fun z=>hb (z ▸ List.mem_cons_self)]; exact e
end
section
variable {P:Program} {w:World} {A:Around} {E:Value→Shared→Prop} {s:Shared}
theorem lu:isSubtype (.type "str") (.type "set")=pure false:=by rw [isSubtype_type]; kernel_rfl
theorem gR:isSubtype (.type "str") (.type "frozenset")=pure false:=by rw [isSubtype_type]; kernel_rfl
def bZ (z:Str) (i:Nat):Str:=match z.cps[i]? with
 | some c=>mk1 c
 | none=>""
abbrev iF (led:Bool):Obj:={ cls:=.type "set",dict:=none,data:=.set #[] 0 (.fresh 0 0 led) }
theorem j4 {z:Str} {t:Tok} {Q:Value→Shared→Prop} (hh:A.handled=none) (hb:z.length+1 < scanBound)
  (h:∀ (h':Heap) (tk:Nat),SetS P w h' s.heap.objs.size (bZ z) z.length→(∀ b o,b < s.heap.objs.size→s.heap.get? b=some o→h'.get? b=some o)→Q (.ref s.heap.objs.size) { s with heap:=h',toks:=tk }) :
  wpAny (model P w) A (call (.type "set") [.str z t]) Q E s:=by
 obtain ⟨c,tl,e0⟩:=PySem.F.called_set.mro
 have e1:=PySem.F.called_set.made
 have e2:=PySem.F.called_set.sub
 refine wpAny_call (codeAny_of_tree ?_)
 show wpAny _ _ (callAny (.type "set") ⟨[.str z t],[]⟩) _ _ _
 refine wpAny_pure ⟨Code.quiet_builtin _ (by decide +kernel),codeAny_builtin PySem.F.entry_type_call ?_⟩
 rw [Around.under_plain (weight_type_call_type "set" [.str z t] []) rfl]
 have e3:=PySem.F.called_set.notType
 have e4:=PySem.F.called_set.canCreate
 have e5:=PySem.F.typeCall_set_1 (.str z t)
 repeat (any_goals (first | assumption | wp_step))
 refine codeAny_mono (code_set_new_1 (.str z t) (E:=E) (Q₁:=fun obj s1=>∃ led:Bool,obj=.ref s.heap.objs.size∧s1={ s with heap:=s.heap.push (iF led) }) fun led=>⟨led,rfl,rfl⟩) fun r s1 hr=>?_
 cases r with
 | error e=>exact hr
 | ok fl =>
  cases fl with
  | ret obj =>
   obtain ⟨led,rfl,rfl⟩:=hr
   have g0:(s.heap.push (iF led)).get? s.heap.objs.size=some (iF led):=Heap.get?_push_size _ rfl
   have hT:Shared.TypeIs { s with heap:=s.heap.push (iF led) } (.ref s.heap.objs.size) "set":=⟨_,g0,rfl⟩
   have i1:=PySem.F.called_set.init.lookup
   have i2:=PySem.F.called_set.init.bind (.ref s.heap.objs.size)
   repeat (any_goals (first | assumption | wp_step))
   refine codeAny_mono (codeAny_call_builtin (R:=wants (fun r s2=>r=.none∧∃ h' tk,s2={ s with heap:=h',toks:=tk }∧SetS P w h' s.heap.objs.size (bZ z) z.length ∧
     ∀ b o,b < s.heap.objs.size→s.heap.get? b=some o→h'.get? b=some o) E) PySem.F.called_set.init.plain PySem.F.entry_set_init (check_set_init_1 hT ?_)) fun r2 s2 hr2=>?_
   ·have j1:=lu
    have j2:=gR
    have j3:(Value.type "str" == Value.type "dict")=false:=by decide
    unfold Builtin.«set.__init__» noKeywords Builtin.Frozenset.updateFrom
    generalize hPI:pyIter=PI
    wp_walk
    subst hPI
    refine wpAny_pyIter_str fun o St W w0=>?_
    refine wpAny_bind (wpAny_runValue ?_)
    have hne:s.heap.objs.size ∉ [(s.heap.push (iF led)).objs.size]:=by rw [Heap.size_push]; simp
    refine ph ((W _ (by simp [hh])).toS) s.heap.objs.size hne (bZ z) (fun i v ⟨c,u,ec,ev⟩=>⟨u,by rw [ev]; unfold bZ; rw [ec]; rfl⟩) hb (z.length - 0) 0 _ rfl (Nat.zero_le _) w0 ?_ ?_
    ·exact SetOf_congr ((setObjOf_fresh (knd:=strKind P w) led).setOf (Heap.get?_push_of_some _ g0) (by unfold scanBound; omega)) (fun _=>rfl) rfl
    ·intro s3 m h3
     obtain ⟨h',g',d',tk,os'⟩:=s3
     obtain rfl:g'=s.gens:=m.gens
     obtain rfl:d'=s.drawn:=m.drawn
     obtain rfl:os'=s.os:=m.os
     refine wpAny_pure (wpAny_pure ⟨rfl,h',tk,rfl,h3,fun b o hb e=>?_⟩)
     refine m.heap b o ?_ (Heap.get?_push_of_some _ (Heap.get?_push_of_some _ e))
     simp only [List.mem_cons,List.not_mem_nil,or_false,not_or]
     exact ⟨Nat.ne_of_lt hb,Nat.ne_of_lt (Nat.lt_of_lt_of_le hb (by rw [Heap.size_push]; omega))⟩
   ·cases r2 with
    | error e=>exact hr2
    | ok fl2 =>
     cases fl2 with
     | ret r =>
      obtain ⟨rfl,h',tk,rfl,h3,hk⟩:=hr2
      repeat (any_goals (first | assumption | wp_step))
      exact h _ _ h3 hk
     | _=>exact hr2.elim
  | _=>exact hr.elim
end
end L2
namespace L2
open PySem PySem.Spec PyProof.Rows
section
variable {X:Cx} {K:PySem.W.Frag} {p p1 p2:Bool} {ds ds1 ds2:List Nat} {d d1 d2:Nat} {e k:Expr} {f f1 f2:ME} {fa:MA} {sh:Sh} {σ:St} {H:Hp} {Q Q':VK} {pos pos2 px py:Pos}
theorem iw (h:∀ v H,Q v H→Q' v H):tF K p ds ds1 d f σ H Q→tF K p ds ds1 d f σ H Q'
 | ⟨Ox,en,R,t,en',e,hf,k⟩=>⟨Ox,en,R,t,en',e,hf,fun v H' R' F P o=>h _ _ (k v H' R' F P o)⟩
def mt (P:Program) (w:World) (a:Addr) (z:Str):HO:=.ext fun h=>SetS P w h a (bZ z) z.length
def Cb (P:Program) (w:World):List V→Hp→VK→Prop:=fun xs H Q=>∃ z,xs=[.str z]∧z.length+1 < scanBound∧∀ a,H a=none→Q (.ref a) (upd H a (mt P w a z))
theorem oP (hc:X.calm=true):CallR X (.type "set") (Cb X.prog X.w):=by
 intro pins s σ H xs us Q I r ⟨z,e,hb,q⟩
 subst e
 obtain ⟨u,rfl,ru⟩:=bJ r
 obtain ⟨t,rfl⟩:=ru
 refine j4 (I.ok.hd hc) hb fun h' tk hS hk=>⟨.ref _,_,I.laid (a:=s.heap.objs.size) (o:=mt X.prog X.w s.heap.objs.size z) (t':=tk) (fun b o e=>hk b o (Heap.lt_size e) e) (Nat.le_refl _) ?_,rfl,q _ (I.hok.fresh (Nat.le_refl _))⟩
 have h2:=hS
 obtain ⟨o,_,_,_,e,_⟩:=h2
 exact ⟨hS,⟨o,e⟩,fun h1 h2 a k=>a.mv k⟩
def Ce (P:Program) (w:World):List V→Hp→VK→Prop:=fun xs H Q=>∃ a z,xs=[.ref a]∧H a=some (mt P w a z)∧z.length < 4096∧Q (.int (bc (bZ z) z.length).length) H
theorem oS:CallR X (.builtin "len") (Ce X.prog X.w):=by
 intro pins s σ H xs us Q I r ⟨a,z,e,ha,hz,q⟩
 subst e
 obtain ⟨u,rfl,ru⟩:=bJ r
 cases ru
 obtain ⟨⟨o,es,ep,t,g1,g2,g3,_,_,_,g5,g6⟩,_⟩:=I.hok a _ ha
 have le:=gK (bZ z) z.length
 have e:(es.size:Int)=((bc (bZ z) z.length).length:Nat):=by rw [g6]
 refine call_len_set g1 g2 g3 g5 (by omega) ⟨.int es.size,H,(I.tok _).tok _,⟨_,rfl⟩,?_⟩
 rw [e]
 exact q
def iG:D→Option D
 | .str z=>grd (z.length < 4000) (.int (bc (bZ z) z.length).length)
 | _=>none
theorem oH (hK:X.K=K) (hc:X.calm=true) (hg:Gl X "len") (hm:X.mg "len"=none) (hg2:Gl X "set") (hm2:X.mg "set"=none) (hb:bootBuiltins "len"=some (.builtin "len")) (hb2:bootBuiltins "set"=some (.type "set")) (he:PE X e (tF K p ds ds1 d1 f)) (hs:aK e=true) :
  PE X (.Call (.Name "len" px) [.Call (.Name "set" py) [e] [] pos2] [] pos) (tF K p ds ds1 3 (e1 iG f)):=by
 subst hK
 refine (hZ oS hg hm hb (cN (jA (oP hc) hg2 hm2 hb2 (cN he pa_nil (bn hs)) (by decide) (by decide) (bn hs) rfl) pa_nil (bn rfl)) (by decide) (by decide) (bn rfl) rfl).imp fun σ H Q h=>?_
 obtain ⟨Ox,en,R,t,en',e,hf,k⟩:=h
 unfold e1 at hf
 obtain ⟨⟨t1,en1⟩,h1,hf⟩:=Option.bind_eq_some_iff.mp hf
 obtain ⟨t',h3,hf⟩:=Option.map_eq_some_iff.mp hf
 cases hf
 cases t1 with
 | str z =>
  obtain ⟨c,rfl⟩:=bq h3
  refine ⟨Ox,en,R,.str z,en1,e,h1,fun v H' R' F P o=>?_⟩
  refine ⟨z,by rw [show v=.str z from o],by unfold scanBound; omega,fun a ha=>?_⟩
  refine ⟨a,z,rfl,aG,by omega,?_⟩
  have n:NewTo H' (upd H' a (mt X.prog X.w a z)) NoA:=⟨(bu ha).1,fun _ z=>z.elim⟩
  exact k _ _ R' NoA (P.fin n) rfl
 | _=>cases h3
def DG:D→D→Option D
 | .list ts,.int (-1)=>some (.list ts.reverse)
 | _,_=>none
def gI:D→D→Option D
 | .tuple ts,.int (-1)=>some (.tuple ts.reverse)
 | _,_=>none
def fE:D→D→Option D
 | .str z,.int (-1)=>grd (z.length≤sizeLine) (.str ⟨z.cps.toList.reverse.toArray⟩)
 | _,_=>none
theorem xH (hK:X.K=K) (he:PE X e (tF K p ds ds1 d1 f1)) (hk:PE X k (tF K p ds1 ds2 d2 f2)):PE X (.Subscript e (.Slice none none (some k) pos2) pos) (tF K p ds ds2 0 (e2 gI f1 f2)):=by
 refine (pJ hK he hk).imp fun σ H Q h=>?_
 refine iw (fun x H1 h1=>iw (fun y H2 h2=>?_) h1) (gQ (by rw [Bool.and_self]; exact h))
 obtain ⟨O,a,b,t,oa,ob,hd,hg,q⟩:=h2
 unfold gI at hg
 split at hg
 ·cases hg
  obtain ⟨a,vs,rfl,fz,w⟩:=oa.tup0
  exact ⟨a,vs,rfl,ob,fz.sq,fun l hl=>q _ _ _ (cg hl hd w.rev).1 (cg hl hd w.rev).2⟩
 ·cases hg
theorem xI (he:PE X e (tF K p ds ds1 d1 f1)) (hk:PE X k (tF K p ds1 ds2 d2 f2)):PE X (.Subscript e (.Slice none none (some k) pos2) pos) (tF K p ds ds2 3 (e2 fE f1 f2)):=by
 refine (wS he hk).imp fun σ H Q h=>?_
 refine iw (fun x H1 h1=>iw (fun y H2 h2=>?_) h1) (gQ (by rw [Bool.and_self]; exact h))
 obtain ⟨O,a,b,t,oa,ob,hd,hg,q⟩:=h2
 unfold fE at hg
 split at hg
 ·obtain ⟨c,rfl⟩:=bq hg
  exact ⟨_,oa,ob,c,q _ _ NoA .refl rfl⟩
 ·cases hg
def Ds (fa:MA):MI:=fun en=>(fa en).bind fun r=>match r.1 with
 | [.inl (.str x),.inl (.str y)]=>some (o7 (bP x) (bP y),r.2)
 | _=>none
def isB:D→D→Option D
 | .bool a,.bool b=>some (.bool (a == b))
 | _,_=>none
end
end L2
namespace L2
open PySem PySem.Spec PyProof.Rows
section
variable {X:Cx} {K:PySem.W.Frag} {pins:List (Addr × Obj)} {σ:St} {H:Hp} {s:Shared} {O:AS}
theorem Inv.noSeq (I:Inv X pins σ H s) {a:Addr} {o:Obj} {xs:Array Value} {n:Nat} (h:s.heap.get? a=some o) (d:o.data=.seq xs n):sysModules≠a:=by
 intro e
 obtain ⟨mm,hm⟩:=I.mod.mods
 obtain ⟨ob,es,ep,g1,g2,_⟩:=hm.keeps I.bk
 rw [e,h] at g1
 cases g1
 rw [d] at g2
 cases g2
theorem fG {h:Heap}:∀ (kk:List Key) {its:List Value},Vals (kk.map kV) its→ReadsAll h its (kk.map kD) []
 | [],_,r=>by cases r; exact .nil
 | .inl i :: kk,_,r=>by
  cases r with
  | cons ru rr =>
   obtain ⟨t,rfl⟩:=ru
   exact .cons (as:=[]) (bs:=[]) (.int i t) (fG kk rr)
 | .inr x :: kk,_,r=>by
  cases r with
  | cons ru rr =>
   obtain ⟨t,rfl⟩:=ru
   exact .cons (as:=[]) (bs:=[]) (.str x t) (fG kk rr)
mutual
theorem Ow.reads2 (I:Inv X pins σ H s):∀ (t:D) {v:V} {u:Value},Ow X.K O H t 0 v NoA→RelV v u→∃ as,Reads s.heap u t as∧sysModules ∉ as
 | .none,_,_,h,r=>by
  cases (show _=V.non from h)
  cases r
  exact ⟨_,.none,by simp⟩
 | .bool b,_,_,h,r=>by
  cases (show _=V.bl b from h)
  cases r
  exact ⟨_,.bool _,by simp⟩
 | .int i,_,_,h,r=>by
  cases (show _=V.int i from h)
  obtain ⟨t,rfl⟩:=r
  exact ⟨_,.int _ _,by simp⟩
 | .str x,_,_,h,r=>by
  cases (show _=V.str x from h)
  obtain ⟨t,rfl⟩:=r
  exact ⟨_,.str _ _,by simp⟩
 | .list ts,_,_,h,r=>by
  obtain ⟨p,vs,rfl,fz,w⟩:=h.lst0
  cases r
  obtain ⟨its,rv,pl,_⟩:=I.list fz.sq
  obtain ⟨as,ra,rb⟩:=Ows.reads2 I ts w rv
  obtain ⟨o,n,e,e2,_,e3⟩:=pl
  refine ⟨_,.list e e2 e3 (by simpa using ra),fun hm=>?_⟩
  rcases List.mem_cons.mp hm with z | z
  ·exact I.noSeq e e3 z
  ·exact rb z
 | .tuple ts,_,_,h,r=>by
  obtain ⟨p,vs,rfl,fz,w⟩:=h.tup0
  cases r
  obtain ⟨its,rv,⟨o,e1,e2,n,e3⟩,_⟩:=I.tuple fz.sq
  obtain ⟨as,ra,rb⟩:=Ows.reads2 I ts w rv
  exact ⟨_,.tuple e1 e2 e3 (by simpa using ra),rb⟩
 | .dict ks,_,_,h,r=>by
  obtain ⟨a,vs,rfl,⟨_,ha,_,g2⟩ | ⟨z,_⟩ | ⟨_,kk,b,hk,ha,_⟩⟩:=h
  ·cases r
   obtain ⟨_,hsys,us,kv,dd⟩:=i4 I.hok ha
   obtain ⟨o,es,n,g1,gc,g3,_,g5,_⟩:=dd
   obtain ⟨bs,r1,r2,r3⟩:=Owd.reads2 I ks g2 kv g5
   refine ⟨_,.dict g1 gc.1 g3 r1 r2,fun hm=>?_⟩
   have hm':sysModules=a∨sysModules∈bs:=by simpa using hm
   rcases hm' with e | e
   ·rw [← e] at hsys
    simp at hsys
   ·exact r3 e
  ·exact absurd rfl z
  ·cases r
   subst hk
   obtain ⟨_,hsys,xs,rel,o,es,ep,g1,gc,g3,g4,_⟩:=j9 I.hok ha
   cases rel with
   | @cons _ q _ _ rq rr =>
    cases rr
    obtain ⟨q1,q2,q3⟩:=q
    obtain ⟨e1,e2,e3⟩:=rq
    have e3':q3=.bool b:=e3
    subst e3'
    obtain ⟨its,rv,⟨ot,t1,t2,n,t3⟩,_⟩:=I.tuple (SqT.of e2)
    have rk:=fG (h:=s.heap) kk rv
    refine ⟨_,.dict g1 gc.1 g3 (as:=[]) (bs:=[]) ?_ ?_,fun hm=>?_⟩
    ·rw [g4]
     exact .cons (as:=[]) (bs:=[]) (.tuple t1 t2 t3 (by simpa using rk)) .nil
    ·rw [g4]
     exact .cons (as:=[]) (bs:=[]) (.bool b) .nil
    ·have hm':sysModules=a:=by simpa using hm
     rw [← hm'] at hsys
     simp at hsys
theorem Ows.reads2 (I:Inv X pins σ H s):∀ (ts:List D) {vs:List V} {us:List Value},Ows X.K O H ts 0 vs NoA→Vals vs us→∃ as,ReadsAll s.heap us ts as∧sysModules ∉ as
 | [],_,_,h,r=>by
  cases (show _=[] from h)
  cases r
  exact ⟨_,.nil,by simp⟩
 | t :: ts,_,_,h,r=>by
  obtain ⟨v,q,F1,F2,e,_,_,_,h4,h5⟩:=h
  subst e
  cases r with
  | cons ru rr =>
   obtain ⟨as,a1,b1⟩:=Ow.reads2 I t (Ow.any0 t h4) ru
   obtain ⟨bs,a2,b2⟩:=Ows.reads2 I ts (Ows.any0 ts h5) rr
   exact ⟨_,.cons a1 a2,fun z=>(List.mem_append.mp z).elim b1 b2⟩
theorem Owd.reads2 (I:Inv X pins σ H s):∀ (ks:List (D × D)) {vs:List (Key × V)} {us:List (Key × Value)} {es:List DictEntry},Owd X.K O H ks 0 vs NoA→KV vs us→Pairs (bm X.prog X.w) es us →
  ∃ bs,ReadsAll s.heap (es.map fun x=>x.key) (ks.map fun x=>x.1) []∧ReadsAll s.heap (es.map fun x=>x.val) (ks.map fun x=>x.2) bs∧sysModules ∉ bs
 | [],_,_,_,h,r,p=>by
  cases (show _=[] from h)
  cases r
  cases p
  exact ⟨_,.nil,.nil,by simp⟩
 | (k,t) :: ks,_,_,_,h,r,p=>by
  obtain ⟨q,v,r',F1,F2,e,rfl,_,_,_,h4,h5⟩:=h
  subst e
  cases r with
  | cons ru rr =>
   cases p with
   | @cons e0 _ _ _ p1 p2 p3 =>
    obtain ⟨as,a1,b1⟩:=Ow.reads2 I t (Ow.any0 t h4) ru.2
    obtain ⟨bs,a2,a3,b2⟩:=Owd.reads2 I ks (Owd.any0 ks h5) rr p3
    have hk:Reads s.heap e0.key (kD q) []:=by
     have p1':fL _ e0.key=true:=p1
     rw [← ru.1] at p1'
     rcases bd p1' with ⟨i,t,e1,e2⟩ | ⟨x,t,e1,e2⟩
     ·have e1':q=Sum.inl i:=e1
      rw [e1',e2]
      exact .int _ _
     ·have e1':q=Sum.inr x:=e1
      rw [e1',e2]
      exact .str _ _
    exact ⟨as++bs,.cons hk a2,.cons (show Reads s.heap e0.val t as from p2 ▸ a1) a3,fun z=>(List.mem_append.mp z).elim b1 b2⟩
end
def iB:List D→Option D
 | [t]=>grd (t.showable=true∧t.depth≤60∧t.shown.length≤sizeLine) (.str t.shown)
 | _=>none
theorem kT (hK:X.K=K) (hg:X.A.guards=some []) (hu:X.A.units+64 < cLine):CallR X (.builtin "repr") (rFn K iB 3):=by
 intro pins s σ H xs us Q I r ⟨O,as,t,oa,hd,hr,k⟩
 by_cases hold:mw as=some t
 ·exact xA hK hg hu pins s σ H xs us Q I r ⟨O,as,t,oa,hd,hold,k⟩
 subst hK
 unfold iB at hr
 split at hr
 ·next d =>
  obtain ⟨⟨c2,c3,c4⟩,rfl⟩:=bq hr
  obtain ⟨v,rfl,o⟩:=oa.one
  obtain ⟨u,rfl,ru⟩:=bJ r
  obtain ⟨as,rd,hs⟩:=Ow.reads2 I d o ru
  have q:=k (.str d.shown) H NoA .refl rfl
  obtain ⟨a,rfl⟩:∃ a,u=.ref a:=by
   cases d with
   | tuple ts =>
    obtain ⟨p,vs,rfl,_,_⟩:=o.tup0
    exact ⟨p,ru⟩
   | list ts =>
    obtain ⟨p,vs,rfl,_,_⟩:=o.lst0
    exact ⟨p,ru⟩
   | dict ks =>
    obtain ⟨a,vs,rfl,_⟩:=o
    exact ⟨a,ru⟩
   | _ =>
    refine absurd ?_ hold
    show grd _ _=_
    exact if_pos ⟨rfl,c2,c3,c4⟩
  exact repr_of_reads' rd c2 (fun _=>hs) hg (by omega) (fun _ _ e=>e) (fun h' u tk hk=>⟨.str _,H,I.kept (t':=tk) hk,⟨_,rfl⟩,q⟩) c4
 ·cases hr
end
end L2
namespace L2
open PySem PySem.Spec PyProof.Rows
section
variable {X:Cx} {K:PySem.W.Frag} {p p1 p2:Bool} {ds ds1 ds2:List Nat} {d d1 d2:Nat} {a b:Expr} {f f1 f2:ME} {σ:St} {H:Hp} {Q Q':VK} {pos:Pos} {ta tb:TE} {rest:List Expr}
def mC:List D→Option D
 | [.str z]=>match z.cps.toList with
  | [c]=>some (.int (c:Nat))
  | _=>none
 | _=>none
theorem Bw:CallR X (.builtin "ord") (rFn K mC 3):=by
 intro pins s σ H xs us Q I r ⟨O,as,t,oa,hd,hr,k⟩
 unfold mC at hr
 split at hr
 ·next z =>
  split at hr
  ·next c hc =>
   cases hr
   obtain ⟨v,rfl,o⟩:=oa.one
   obtain ⟨u,rfl,ru⟩:=bJ r
   cases (show v=V.str z from o)
   obtain ⟨t,rfl⟩:=ru
   have e:z=⟨#[c]⟩:=by
    obtain ⟨w⟩:=z
    have e:w=#[c]:=Array.toList_inj.mp hc
    rw [e]
   subst e
   exact P.ord_of_char ⟨.int (c:Nat),H,I.tok _,⟨_,rfl⟩,k _ H NoA .refl rfl⟩
  ·cases hr
 ·cases hr
def De:D→Option Int→Option Int→Option D
 | .tuple ts,lo,hi=>grd (¬ (HT.sIx ts.length 0 lo=0∧HT.sIx ts.length ts.length hi=ts.length)) (.tuple (bD ts lo hi))
 | _,_,_=>none
theorem Bx (hK:X.K=K):SlR X (rFs K De 0):=(C6 hK).imp fun x lo hi H Q ⟨O,a,t,oa,hd,hg,k⟩=>by
 cases a with
 | tuple ts =>
  obtain ⟨c,rfl⟩:=bq hg
  obtain ⟨a,vs,e1,f1,w1⟩:=oa.tup0
  refine ⟨a,vs,e1,f1.sq,by rw [w1.len]; exact c,fun p hp=>?_⟩
  have w2:Ows K O H (bD ts lo hi) 0 (eR vs lo hi) NoA:=by
   unfold bD eR
   rw [w1.len]
   exact (w1.drop _).take _
  exact k _ _ _ (cg hp hd w2).1 (cg hp hd w2).2
 | _=>cases hg
def CY:D→Option Bool
 | .none=>some false
 | .bool b=>some b
 | .list ts=>some (!ts.isEmpty)
 | .tuple ts=>some (!ts.isEmpty)
 | _=>none
def DN (f g:ME):ME:=fun en=>(f en).bind fun r=>(CY r.1).bind fun c=>if c then some r else g r.2
end
end L2
namespace L2
open PySem PySem.Spec PyProof.Rows
section
variable {X:Cx} {K:PySem.W.Frag} {p p1 p2:Bool} {ds ds1 ds2:List Nat} {d d1 d2:Nat} {a b:Expr} {f f1 f2:ME} {σ:St} {H:Hp} {Q Q':VK} {pos:Pos}
end
end L2
namespace L2
open PySem PySem.Spec PyProof.Rows PySem.SeqAt PySem.MeetsSeq
section
variable {A:Around} {s:Shared}
end
section
variable {X:Cx} {pins:List (Addr × Obj)} {σ:St} {H:Hp} {s:Shared} {O:AS}
end
section
variable {X:Cx} {K:PySem.W.Frag}
end
end L2
namespace L2
open PySem PySem.Spec PyProof.Rows PySem.SeqAt PySem.MeetsSeq
def DI:D→D→Option D
 | .tuple ts,.int k=>grd (1≤k∧k≤1000∧ts.length≤1000) (.tuple (List.replicate k.toNat ts).flatten)
 | _,_=>none
section
variable {X:Cx} {K:PySem.W.Frag}
def Dz:D→D→Option D
 | .int k,.str z=>grd (z.length≤4000∧1≤k∧k≤4000) (.str (Txt.mul z k))
 | _,_=>none
end
section
variable {X:Cx} {K:PySem.W.Frag}
end
section
variable {X:Cx} {K:PySem.W.Frag}
end
section
variable {X:Cx} {K:PySem.W.Frag} {p p1 p2:Bool} {ds ds1 ds2:List Nat} {d d1 d2:Nat} {e:Expr} {f f1 f2:ME} {σ:St} {H:Hp} {Q Q':VK}
end
def Dw:D→D→Option D
 | .tuple ts,b=>grd (ax b=true∧aQ ts=true∧eE ts≤60) (.int (ts.countP fun t=>peq t b:Nat))
 | _,_=>none
section
variable {X:Cx} {K:PySem.W.Frag} {p:Bool} {ds ds1 ds2:List Nat} {d d1 d2:Nat} {e:Expr} {f f1 f2:ME} {σ:St} {H:Hp} {Q Q':VK}
end
end L2
namespace L2
open PySem PySem.Spec PyProof.Rows HT
section
variable {prog:Program} {w:World} {A:Around} {E:Value→Shared→Prop} {s:Shared}
theorem gU {t sl:Addr} {items:Array Value} {vl vu:Value} {lo hi:Option Int} {Q:Value→Shared→Prop} (ht:IsTup s.heap t items) (hs:s.heap.IsSliceOf sl vl vu .none) (pl:IsPart vl lo) (pu:IsPart vu hi)
  (hw:HT.sIx items.size 0 lo=0∧HT.sIx items.size items.size hi=items.size) (h:Q (.ref t) s):wpAny (model prog w) A (getItem (.ref t) (.ref sl)) Q E s:=by
 obtain ⟨os,hos,hcs,hds⟩:=id hs
 have hTs:s.TypeIs (.ref sl) "slice":=⟨os,hos,hcs⟩
 obtain ⟨ot,hot,hct,m,hdt⟩:=id ht
 obtain ⟨cls,dd,data,slo⟩:=ot
 simp only at hct hdt
 subst hct hdt
 unfold getItem
 try with_reducible refine wpAny_holding ?_
 first | refine wpAny_bind (wpAny_pure ?_) | skip
 refine wpAny_bind (wpAny_sequenceKey ht.typeIs (by decide) (wpAny_bind (wpAny_callSpecial?_slot (name:=Str.ofString "__getitem__") ht.typeIs PyProof.Rows.slot_tuple_getitem
  (wpAny_call_entry PyProof.Rows.slot_tuple_getitem ht.typeIs entry_tuple_getitem ?_ (args_tuple_getitem _ _)))))
 show wpAny _ _ (Builtin.Tuple.tupleItemsOf (.ref t) >>= _) _ _ s
 refine wpAny_bind (tupleItemsOf_ ht (wpAny_bind (wpAny_typeOf hTs ?_)))
 rw [if_pos (by decide)]
 refine wpAny_bind (dO hs pl pu ?_)
 rw [hw.1,hw.2]
 have h1:(((0:Nat):Int) == 0 && (1:Int) == 1 && (items.size - 0) == items.size)=true:=by simp
 show wpAny _ _ (if (((0:Nat):Int) == 0 && (1:Int) == 1 && (items.size - 0) == items.size)=true then _ else _) _ _ s
 rw [if_pos h1]
 wp_walk using wpAny_loadPart' hot,wpAny_load hot
 exact ⟨_,rfl,wpAny_pure h⟩
end
def eF:D→Option Int→Option Int→Option D
 | .tuple ts,lo,hi=>some (.tuple (bD ts lo hi))
 | _,_,_=>none
section
variable {X:Cx} {K:PySem.W.Frag}
theorem gO (hK:X.K=K):SlR X (rFs K eF 0):=by
 intro pins s σ H x v vl vu lo hi sl Q I rx hs pl pu ⟨O,a,t,oa,hd,hg,k⟩
 cases a with
 | tuple ts =>
  by_cases hw:HT.sIx ts.length 0 lo=0∧HT.sIx ts.length ts.length hi=ts.length
  ·subst hK
   obtain ⟨a,vs,rfl,fz,w⟩:=id oa.tup0
   cases rx
   obtain ⟨its,r,ht,hz⟩:=I.tuple fz.sq
   have hlen:its.toArray.size=ts.length:=by rw [List.size_toArray,← w.len]; exact r.length.symm
   refine ⟨"tuple",_,PyProof.Rows.slot_tuple_getitem.lookup,ht.typeIs,?_⟩
   refine gU ht hs pl pu (by rw [hlen]; exact hw) ⟨.ref a,H,I,rfl,k _ H NoA .refl ?_⟩
   cases hg
   have e:bD ts lo hi=ts:=by
    unfold bD
    rw [hw.1,hw.2]
    simp
   rw [e,cW]
   exact oa
  ·refine Bx hK pins s σ H x v vl vu lo hi sl Q I rx hs pl pu ⟨O,.tuple ts,t,oa,hd,?_,k⟩
   cases hg
   show grd _ _=_
   unfold grd
   rw [if_pos hw]
 | _=>cases hg
end
end L2
namespace L2
open PySem PySem.Spec PyProof.Rows
section
variable {P:Program} {w:World} {A:Around} {E:Value→Shared→Prop} {s:Shared}
end
section
variable {X:Cx} {K:PySem.W.Frag} {p p1 p2:Bool} {ds ds1 ds2:List Nat} {d d1 d2:Nat} {e k:Expr} {f f1 f2:ME} {fa:MA} {sh:Sh} {σ:St} {H:Hp} {Q Q':VK} {pos pos2 px py:Pos}
end
end L2
namespace L2
open PySem PySem.Spec PyProof.Rows PySem.SeqAt PySem.MeetsSeq
section
variable {X:Cx} {K:PySem.W.Frag}
end
section
variable {X:Cx} {K:PySem.W.Frag}
end
end L2
namespace L2
open PySem PySem.Spec PyProof.Rows PySem.SeqAt PySem.MeetsSeq
section
variable {X:Cx} {K:PySem.W.Frag} {p p1 p2:Bool} {ds ds1 ds2:List Nat} {d d1 d2:Nat} {e:Expr} {f f1 f2:ME} {σ:St} {H:Hp} {Q Q':VK} {i:Nat}
end
section
variable {X:Cx} {K:PySem.W.Frag} {p p1 p2 q:Bool} {J:Jd} {ds ds0 ds1 ds2 ds' dsi dps:List Nat} {d d' d1 d2 dr:Nat} {a b c e tg iter:Expr} {es:List Expr} {st:Stmt} {rest body bodyB:List Stmt} {f f1 f2 fk fe:ME} {c1 c2:MT} {fa:MA} {sh:Sh} {pos px:Pos} {i:Nat} {x:Str} {m m1 m2:MS} {g:MG} {gs:List D→En→Option En} {fi:MI} {lk:List Nat}
end
end L2
namespace L2
open PySem PySem.Spec PyProof.Rows
section
variable {prog:Program} {w:World} {A:Around} {E:Value→Shared→Prop} {s:Shared}
end
section
variable {prog:Program} {w:World} {A:Around} {E:Value→Shared→Prop} {s:Shared}
end
section
variable {X:Cx} {tg:Expr} {K:PySem.W.Frag}
end
section
variable {X:Cx} {K:PySem.W.Frag} {p:Bool} {ds ds1:List Nat} {d:Nat} {fa:MA} {sh:Sh} {O O1:AS} {H0 H:Hp} {ts us:List D} {vs ws:List V} {a b:Addr}
def Dr (fa:MA):MI:=fun en=>(fa en).bind fun r=>match r.1 with
 | [.inl (.tuple ts),.inl (.tuple us)]=>some (o7 ts us,r.2)
 | _=>none
end
end L2
namespace L2
open PySem PySem.Spec PyProof.Rows
section
variable {K:PySem.W.Frag} {p p1 p2 q:Bool} {J:Jd} {lk ds ds0 ds1 ds2 ds':List Nat} {d d' d1 d2:Nat} {f:ME} {i j:Nat} {g:MG} {gs:List D→En→Option En} {σ:St} {H:Hp} {Dn:Ends} {v:V} {vs:List V} {QS:St→Hp→Prop}
end
section
variable {X:Cx} {K:PySem.W.Frag} {J:Jd} {lk ds ds0 ds1 ds2 ds':List Nat} {e tg:Expr} {es:List Expr} {f:ME} {pos px:Pos} {i:Nat} {g:MG} {gs:List D→En→Option En}
end
end L2
namespace L2
open PySem PySem.Spec PyProof.Rows
def nz (tk tv:TE):TE:=fun σ H Q=>∀ p,H p=none→kg [(tk,tv)] σ (upd H p (.dT [])) fun ps H2=>H2 p=some (.dT [])∧∃ (kk:List Key) (b:Addr) (y:V),ps=[(.ref b,y)]∧H2 b=some (.tup (kk.map kV))∧Q (.ref p) (upd H2 p (.dT [(kk,y)]))
theorem pz {X:Cx} {pos:Pos} {k v:Expr} {tk tv:TE} (hu:X.A.units < cLine) (hk:PE X k tk) (hv:PE X v tv):PE X (.Dict [some k] [v] pos) (nz tk tv):=by
 intro pins s σ H Q I q
 have hn:=I.hok.fresh (Nat.le_refl s.heap.objs.size)
 have I1:=I.laid (a:=s.heap.objs.size) (o:=.dT []) (h':=s.heap.push { cls:=.type "dict",data:=.dict #[] }) (t':=s.toks) (fun _ _ q=>Heap.get?_push_of_some _ q) (Nat.le_refl _) (ql s.heap I.big)
 refine wpAny_Dict_any rfl rfl (by simp) (by show 1≤15; decide) (thn (pq (pos:=pos) hk hv wO pins _ σ _ _ I1 (q _ hn)) fun ws s2 ⟨ps,H2,I2,rel,e,kk,b,y,ep,eb,q2⟩=>?_)
 subst ep
 cases rel with
 | @cons _ w _ _ rw rr =>
  cases rr
  obtain ⟨w1,w2⟩:=w
  obtain ⟨r1,r2⟩:=rw
  cases (show w1=Value.ref b from r1)
  obtain ⟨z,hd,xs,rel,dd⟩:=j9 I2.hok e
  have r0:=rel
  cases rel
  unfold storeAll
  rw [List.forIn_cons]
  refine wpAny_bind (wpAny_bind (wpAny_dictSet_heap (show (tupleKind (bm X.prog X.w)).room X.A from hu) (iK I2.hok eb) dd (fun h' dd' hs=>?_) (by decide)))
  refine wpAny_pure (wpAny_pure ⟨.ref s.heap.objs.size,_,?_,rfl,q2⟩)
  obtain ⟨o,es,ep,hq,h2,h3,h4,_,h5⟩:=dd'
  refine jr I2 (by rw [e]; exact True.intro) hs ⟨o,hq⟩ ⟨by show 1≤sizeLine; decide,hd,_,(r0.put kk eb r2).keeps fun c ys ec=>?_,o,es,ep,hq,h2,h3,h4,h5⟩
  rw [aP (wm ec e (fun z=>nomatch z))]
  exact ec
def dQ:List D→Option (List Key)
 | []=>some []
 | t :: ts=>(kOf t).bind fun k=>(dQ ts).map (k :: ·)
def dU (fk fv:ME):ME:=fun en=>(fk en).bind fun r=>(fv r.2).bind fun q=>match r.1,q.1 with
 | .tuple ts,.bool b=>(dQ ts).map fun _=>(.dict [(.tuple ts,.bool b)],q.2)
 | _,_=>none
theorem lV:∀ {ts:List D} {kk:List Key},dQ ts=some kk→ts=kk.map kD
 | [],_,h=>by cases h; rfl
 | t :: ts,_,h=>by
  obtain ⟨k,h1,h⟩:=Option.bind_eq_some_iff.mp h
  obtain ⟨kk,h2,rfl⟩:=Option.map_eq_some_iff.mp h
  rw [kK h1,lV h2]
  rfl
section
variable {X:Cx} {K:PySem.W.Frag} {p:Bool} {ds:List Nat} {k v:Expr} {fk fv:ME} {pos:Pos} {σ:St} {H:Hp} {Q:VK} {O:AS}
theorem kx:∀ {ts:List D} {kk:List Key} {vs:List V},dQ ts=some kk→Ows K O H ts 0 vs NoA→vs=kk.map kV
 | [],_,_,h,o=>by cases h; exact o
 | t :: ts,_,_,h,o=>by
  obtain ⟨k,h1,h⟩:=Option.bind_eq_some_iff.mp h
  obtain ⟨kk,h2,rfl⟩:=Option.map_eq_some_iff.mp h
  obtain ⟨v,r,F1,F2,rfl,_,_,_,o1,o2⟩:=o
  rw [iD h1 o1,kx h2 (Ows.any0 ts o2)]
  rfl
theorem xP (h:tF K p ds ds 0 (dU fk fv) σ H Q):nz (tF K p ds ds 0 fk) (tF K p ds ds 3 fv) σ H Q:=by
 obtain ⟨Ox,en,R,t,en',e,hf,k⟩:=h
 unfold dU at hf
 obtain ⟨⟨t1,en1⟩,h1,hf⟩:=Option.bind_eq_some_iff.mp hf
 obtain ⟨⟨t2,en2⟩,h2,hf⟩:=Option.bind_eq_some_iff.mp hf
 cases t1 with
 | tuple ts =>
  cases t2 with
  | bool b =>
   obtain ⟨kk,hk,hf⟩:=Option.map_eq_some_iff.mp hf
   cases hf
   intro l hl0
   have n0:=bu (o:=.dT []) hl0
   have P0:Post K true ds Ox σ H en R en (upd H l (.dT [])) R (fun b=>b=l):=Post.new e n0.1 n0.2
   refine ⟨_,en,R,_,en1,P0.env,h1,fun x H1 R1 F1 P1 o1=>?_⟩
   refine ⟨_,en1,R1,_,en2,P1.env0,h2,fun y H2 R2 F2 P2 o2=>?_⟩
   have P:=P1.after (P2.less (F':=NoA) fun _ z=>z.elim)
   rw [Bool.and_self] at P
   have lO:U (fun b=>b=l) Ox l:=.inl rfl
   have hl2:H2 l=some (.dT []):=P.keep l _ aG fun i z=>by
    obtain ⟨o,q⟩:=e.dom l (.inl ⟨i,z⟩)
    rw [hl0] at q
    cases q
   have nl2:∀ i,¬ R2 i l:=fun i z=>P.env.dx i l z (.inr lO)
   have w1:=Ow.mv (wP P2) (.tuple ts) (fun _ z=>z) (Ow.letgo P1 (fun _ z=>z) o1)
   obtain ⟨q,vs,rfl,fz,ow⟩:=w1.tup0
   have ev:=kx hk ow
   subst ev
   have ey:y=.bl b:=o2
   subst ey
   refine ⟨hl2,kk,q,.bl b,rfl,fz.1,?_⟩
   have PP:=P0.trans P
   rw [Bool.true_and] at PP
   have eU:U (fun b=>b=l) NoA=(fun b=>b=l):=di fun a=>⟨fun z=>z.elim id fun z=>z.elim,.inl⟩
   rw [eU] at PP
   have keepl:∀ a o,H2 a=some o→a≠l→upd H2 l (.dT [(kk,.bl b)]) a=some o:=fun a o q n=>by rw [aP n]; exact q
   have PF:Post K p ds Ox σ H en R en2 (upd H2 l (.dT [(kk,.bl b)])) R2 (fun b=>b=l):=by
    refine ⟨⟨fun j u hu=>?_,PP.env.dj,PP.env.dx,fun a z=>?_,PP.env.l1,PP.env.l2⟩,PP.fx,fun a o q n=>?_,PP.own,fun a o q=>?_,fun hp=>?_⟩
    ·obtain ⟨v',d',g1,g2,g3⟩:=PP.env.at_ j u hu
     refine ⟨v',d',g1,g2,Ow.mv (G:=R2 j) ⟨fun a o q z=>keepl a o q fun za=>?_,fun a z=>.inl z⟩ u (fun _ z=>z) g3⟩
     subst za
     rcases z with z | z
     ·exact z (.inr lO)
     ·exact nl2 j z
    ·by_cases ha:a=l
     ·subst ha; exact ⟨_,aG⟩
     ·obtain ⟨o,q⟩:=PP.env.dom a z
      exact ⟨o,keepl a o q ha⟩
    ·refine keepl a o (PP.keep a o q n) fun za=>?_
     subst za
     rw [hl0] at q
     cases q
    ·obtain ⟨o',q'⟩:=PP.dom a o q
     by_cases ha:a=l
     ·subst ha; exact ⟨_,aG⟩
     ·exact ⟨o',keepl a o' q' ha⟩
    ·obtain ⟨b1,b2,b3⟩:=PP.pure hp
     refine ⟨b1,b2,fun a o q=>keepl a o (b3 a o q) fun za=>?_⟩
     subst za
     rw [hl0] at q
     cases q
   refine k (.ref l) _ R2 NoA (PF.less fun _ z=>z.elim) ⟨l,[],rfl,.inr (.inr ⟨rfl,kk,b,by rw [lV hk],aG,fun z=>?_⟩)⟩
   rcases z with ⟨i,z⟩ | z | z
   ·exact nl2 i z
   ·exact z
   ·obtain ⟨o,q⟩:=e.dom l (.inr z)
    rw [hl0] at q
    cases q
  | _=>cases hf
 | _=>cases t2 <;> cases hf
theorem qb (hu:X.A.units+64 < cLine) (hk:PE X k (tF K p ds ds 0 fk)) (hv:PE X v (tF K p ds ds 3 fv)):PE X (.Dict [some k] [v] pos) (tF K p ds ds 0 (dU fk fv)):=(pz (by omega) hk hv).imp fun _ _ _=>xP
theorem jZ (hc:X.calm=true):CallR X (.type "tuple") (fun xs H Q=>∃ z,xs=[.str z]∧z.cps.size≤sizeLine∧∀ l,H l=none→Q (.ref l) (upd H l (.tup (a7 z)))):=by
 intro pins s σ H xs us Q I r h
 obtain ⟨z,rfl,hz,q⟩:=h
 obtain ⟨u,rfl,t,rfl⟩:=bJ r
 refine callType_new F.called_tuple (by decide) (F.typeCall_tuple_1 _) (F.newCall_tuple_1 _) (fun _=>F.args_object_init_2 _ _) F.entry_tuple_new (meets_tuple_new_str z t hz) ⟨show X.A.in1.handled=none from I.ok.hd hc,fun s' acc hk hg hd ho hi=>?_⟩
 have hl:(a7 z).length=acc.toList.length:=by
  unfold a7
  rw [List.length_map,Array.length_toList,Array.length_toList,hi.1]
 have rv:Vals (a7 z) acc.toList:=eI hl fun i x v a b=>by
  obtain ⟨c,tk',hcv,rfl⟩:=hi.2 i v (by simpa using b)
  unfold a7 at a
  rw [List.getElem?_map] at a
  have e:z.cps.toList[i]?=some c:=by simpa using hcv
  rw [e] at a
  cases a
  exact ⟨_,rfl⟩
 obtain ⟨h',g,dr,tk,os'⟩:=s'
 cases hg
 cases hd
 cases ho
 have I1:Inv X pins σ H { s with heap:=h',toks:=tk }:=I.kept (t':=tk) hk
 have I2:Inv X pins σ (upd H h'.objs.size (.tup (a7 z))) { s with heap:=h'.push { cls:=.type "tuple",data:=.seq acc },toks:=tk } :=
  I1.laid (t':=tk) (fun b o e=>Heap.get?_push_of_some _ e) (Nat.le_refl _) (show ObjOk X.prog X.w _ _ _ (.tup (a7 z)) from ⟨?_,acc.toList,rv,by simpa using IsTupN.new h' acc⟩)
 ·exact ⟨⟨_,Heap.get?_push_size _ rfl,rfl⟩,.ref h'.objs.size,_,I2,rfl,q _ (I1.hok.fresh (Nat.le_refl _))⟩
 ·unfold a7
  rw [List.length_map,Array.length_toList]
  exact hz
def j5:List D→Option D
 | [.str z]=>grd (z.cps.size≤sizeLine) (.tuple (bP z))
 | _=>none
theorem l7 (hK:X.K=K) (hc:X.calm=true):CallR X (.type "tuple") (rFn K j5 0):=(jZ hc).imp fun xs H Q ⟨O,as,t,oa,hd,hg,k⟩=>by
 match as,hg with
 | [.str z],hg =>
  obtain ⟨c,rfl⟩:=bq hg
  obtain ⟨v,rfl,o⟩:=oa.one
  exact ⟨z,by rw [show v=.str z from o],c,fun l hl=>k _ _ _ (cg (K:=K) hl hd fH).1 (cg hl hd fH).2⟩
theorem call_len_dk:CallR X (.builtin "len") (fun xs H Q=>∃ a kvs,xs=[.ref a]∧H a=some (.dK kvs)∧Q (.int (kvs.length:Nat)) H):=by
 intro pins s σ H xs us Q I r h
 obtain ⟨a,kvs,rfl,ha,q⟩:=h
 obtain ⟨u,rfl,ru⟩:=bJ r
 cases ru
 obtain ⟨z,hd,vs,rel,dd⟩:=i4 I.hok ha
 refine call_len_dict hd dd ?_ ⟨.int (kvs.length:Nat),H,I.tok _,⟨_,by rw [rel.length]⟩,q⟩
 rw [← rel.length]
 have:sizeLine=16777216:=by decide
 omega
def mJ:List D→Option D
 | [.dict ks]=>grd (noT ks=true) (.int (ks.length:Nat))
 | _=>none
theorem lP:∀ {ks:List (D × D)} {vs:List (Key × V)} {F:AS} {d:Nat},Owd K O H ks d vs F→vs.length=ks.length
 | [],_,_,_,h=>by rw [show _=[] from h]; rfl
 | (k,t) :: ks,_,_,_,h=>by
  obtain ⟨q,v,r,F1,F2,e,_,_,_,_,_,h5⟩:=h
  rw [e,List.length_cons,List.length_cons,lP h5]
theorem p5 (hK:X.K=K):CallR X (.builtin "len") (rFn K mJ 3):=by
 subst hK
 refine call_len_dk.imp fun xs H Q ⟨O,as,t,oa,hd,hg,k⟩=>?_
 match as,hg with
 | [.dict ks],hg =>
  obtain ⟨c,rfl⟩:=bq hg
  obtain ⟨v,rfl,o⟩:=oa.one
  obtain ⟨a,vs,rfl,ha,ow⟩:=o.dict0 c
  exact ⟨a,vs,rfl,ha,by rw [lP ow]; exact k _ H NoA .refl rfl⟩
end
end L2
namespace L2
open PySem PySem.Spec PyProof.Rows
structure QE (X:Cx) (e:Expr) (t:TE):Prop where
 h:PE X e t
structure QT (X:Cx) (e:Expr) (t:TT):Prop where
 h:PT X e t
structure QW (X:Cx) (e:Expr) (t:TT):Prop where
 h:PW X e t
structure QA (X:Cx) (e:List Expr) (t:TA):Prop where
 h:PA X e t
structure QS (X:Cx) (e:Stmt) (t:TS):Prop where
 h:PS X e t
structure QSs (X:Cx) (e:List Stmt) (t:TS):Prop where
 h:PSs X e t
structure QG (X:Cx) (e:Expr) (t:TG):Prop where
 h:PG X e t
structure QI (X:Cx) (tg e:Expr) (t:TI):Prop where
 h:PI X tg e t
structure QTs (X:Cx) (e:List Expr) (t:TT):Prop where
 h:PTs X e t
structure QO (X:Cx) (e:Option Expr) (t:TO):Prop where
 h:PO X e t
theorem qpt {X:Cx} {e:Expr} {t:TT} (h:QW X e t):QT X e t:=⟨h.h.pt⟩
section
variable {X:Cx} {K:PySem.W.Frag} {p p1 p2 q:Bool} {ds ds0 ds1 ds2 ds' dsi:List Nat} {d d' d1 d2:Nat} {a b c e:Expr} {es:List Expr} {f f1 f2:ME} {m c1 c2:MT} {fa:MA} {sh:Sh} {pos:Pos} {i:Nat} {x:Str}
theorem ac {x:Str} (hN:X.N[i]?=some x) (hv:Vis X.env.scope x) (h0:ds[i]?=some 0) (hd:(x == ("__debug__" : Str))=false) (hcd:(x == ("__classdict__" : Str))=false):QE X (.Name x pos) (tF K p ds ds 0 (ae i)):=⟨Bz hN hv h0 hd hcd⟩
theorem ag {n:Int} {j}:QE X (.Constant (.int n) j pos) (tF K p ds ds 3 (eC (.int n))):=⟨BJ⟩
theorem br {n:Bool} {j}:QE X (.Constant (.bool n) j pos) (tF K p ds ds 3 (eC (.bool n))):=⟨CG⟩
theorem ib {j}:QE X (.Constant .none j pos) (tF K p ds ds 3 (eC .none)):=⟨BE⟩
theorem a6 {n:Str} {j}:QE X (.Constant (.str n) j pos) (tF K p ds ds 3 (eC (.str n))):=⟨BC⟩
theorem cn {x:Str} {n:Int} {t:Tok} (hg:Gl X x) (hm:X.mg x=some (.int n t)) (hd:(x == ("__debug__" : Str))=false):QE X (.Name x pos) (tF K p ds ds 3 (eC (.int n))):=⟨qa hg hm hd⟩
theorem aj (h:QE X e (tF K p ds ds' d f)) (hd:d'≤d):QE X e (tF K p ds ds' d' f):=⟨BB h.h hd⟩
theorem xJ (h:QE X e (tF K p ds0 ds' d f)) (hd:leD ds0 ds=true):QE X e (tF K false ds ds' d f):=⟨CD h.h hd⟩
theorem kY (h:QE X e (tF K true ds0 ds0 3 f)) (hd:leD ds0 ds=true):QE X e (tF K p ds ds 3 f):=⟨BN h.h hd⟩
theorem aq {op:Operator} {g:D→D→Option D} (ho:OpR X (binaryOp op) (rF2 K g d)) (ha:QE X a (tF K p ds ds1 d1 f1)) (hb:QE X b (tF K p ds1 ds2 d2 f2)):QE X (.BinOp a op b pos) (tF K p ds ds2 d (e2 g f1 f2)):=⟨CA ho ha.h hb.h⟩
theorem dL {op:UnaryOp} {g:D→Option D} (ho:UnR X (unaryOp op) (rF1 K g d)) (ha:QE X a (tF K p ds ds1 d1 f1)):QE X (.UnaryOp op a pos) (tF K p ds ds1 d (e1 g f1)):=⟨Cz ho ha.h⟩
theorem fN {op:CmpOp} {g:D→D→Option D} (ho:OpR X (compareOp op) (rF2 K g d)) (ha:QE X a (tF K p ds ds1 d1 f1)) (hb:QE X b (tF K p ds1 ds2 d2 f2)) (hm:behindInMarks op b=false):QE X (.Compare a [op] [b] pos) (tF K p ds ds2 d (e2 g f1 f2)):=⟨BM ho ha.h hb.h hm⟩
theorem bo {op:CmpOp} {g:D→D→Option D} (ho:OpR X (compareOp op) (rF2 K g d)) (ha:QE X a (tF K p ds ds1 d1 f1)) (hb:QE X b (tF K p ds1 ds2 d2 f2)) (hm:behindInMarks op b=false):QT X (.Compare a [op] [b] pos) (tFT K p ds ds2 (tV (e2 g f1 f2))):=⟨xl ho ha.h hb.h hm⟩
theorem b7 (h:QE X e (tF K p ds ds' d f)) (he:∀ whole,isTrue e X.env whole=(do let v ← whole; standAt e.pos; holding [v] (truthy v))):QT X e (tFT K p ds ds' (tV f)):=⟨xj h.h he⟩
theorem om (ha:QT X a (tFT K p ds ds1 c1)):QW X (.BoolOp .And [a] pos) (tFT K p ds ds1 c1):=⟨xg ha.h⟩
theorem de (ha:QT X a (tFT K p ds ds1 c1)):QW X (.BoolOp .Or [a] pos) (tFT K p ds ds1 c1):=⟨Bi ha.h⟩
theorem pV {rest:List Expr} (ha:QT X a (tFT K p ds ds1 c1)) (hb:QW X (.BoolOp .And (b :: rest) pos) (tFT K p ds1 ds1 c2)):QW X (.BoolOp .And (a :: b :: rest) pos) (tFT K p ds ds1 (dW c1 c2)):=⟨Bj ha.h hb.h⟩
theorem ck {rest:List Expr} (ha:QT X a (tFT K p ds ds1 c1)) (hb:QW X (.BoolOp .Or (b :: rest) pos) (tFT K p ds1 ds1 c2)):QW X (.BoolOp .Or (a :: b :: rest) pos) (tFT K p ds ds1 (bOr c1 c2)):=⟨Cs ha.h hb.h⟩
theorem bG (ha:QT X a (tFT K p ds ds1 c1)):QT X (.UnaryOp .Not a pos) (tFT K p ds ds1 (cU c1)):=⟨xk ha.h⟩
theorem oq (h:QT X e (tFT K true ds0 ds0 c1)) (hd:leD ds0 ds=true):QT X e (tFT K p ds ds c1):=⟨xm h.h hd⟩
theorem kW {op} (h:QE X a (tF K p ds ds1 d f)):QE X (.BoolOp op [a] pos) (tF K p ds ds1 d f):=⟨BD h.h⟩
theorem kZ {rest:List Expr} (ha:QE X a (tF K p ds ds1 d1 f1)) (hb:QE X (.BoolOp .And (b :: rest) pos) (tF K p ds1 ds1 d f2)):QE X (.BoolOp .And (a :: b :: rest) pos) (tF K p ds ds1 d (ie f1 f2)):=⟨BP ha.h hb.h⟩
theorem af  : QA X [] (tFA K p ds ds [] ah):=⟨xM⟩
theorem aa (ha:QE X e (tF K p ds ds1 d f)) (hr:QA X es (tFA K p ds1 ds2 sh fa)) (hs:aK e=true):QA X (e :: es) (tFA K p ds ds2 (.inl d :: sh) (ad f fa)):=⟨qi ha.h hr.h hs⟩
theorem bg {x:Str} (hN:X.N[i]?=some x) (hv:Vis X.env.scope x) (hr:QA X es (tFA K p ds ds2 sh fa)) (hd:(x == ("__debug__" : Str))=false) (hcd:(x == ("__classdict__" : Str))=false):QA X (.Name x pos :: es) (tFA K p ds ds2 (.inr i :: sh) (bx i fa)):=⟨qh hN hv hr.h hd hcd⟩
theorem aU {c:Nat} (h:QA X es (tFA K p ds ds1 sh fa)) (hs:bE c sh=true) (hd:dn d=c) (hz:d≠0):QE X (.List es pos) (tF K p ds ds1 d (aZ fa)):=⟨BF h.h hs hd hz⟩
theorem aI {c:Nat} {x1} (h:QA X es (tFA K p ds ds1 sh fa)) (hs:bE c sh=true) (hd:dn d=c):QE X (.Tuple es x1 pos) (tF K p ds ds1 d (a5 fa)):=⟨BA h.h hs hd⟩
theorem aB {id:String} {x:Str} {px:Pos} {g:List D→Option D} (hc:CallR X (.builtin id) (rFn K g d)) (hg:Gl X x) (hm:X.mg x=none) (hv:bootBuiltins x=some (.builtin id)) (ha:QA X (e :: es) (tFA K p ds ds1 sh fa)) (hsh:bE 0 sh=true) (hn:x≠"__name__") (hdb:(x == ("__debug__" : Str))=false) (he:aK e=true) (hpl:es.all aK=true):QE X (.Call (.Name x px) (e :: es) [] pos) (tF K p ds ds1 d (eN g fa)):=⟨qf hc hg hm hv ha.h hsh hn hdb he hpl⟩
theorem bz {T:String} {x:Str} {px:Pos} {g:List D→Option D} (hc:CallR X (.type T) (rFn K g d)) (hg:Gl X x) (hm:X.mg x=none) (hv:bootBuiltins x=some (.type T)) (ha:QA X (e :: es) (tFA K p ds ds1 sh fa)) (hsh:bE 0 sh=true) (hn:x≠"__name__") (hdb:(x == ("__debug__" : Str))=false) (he:aK e=true) (hpl:es.all aK=true):QE X (.Call (.Name x px) (e :: es) [] pos) (tF K p ds ds1 d (eN g fa)):=⟨oI hc hg hm hv ha.h hsh hn hdb he hpl⟩
theorem cO {k:Nat} {x:Str} {ps:List Str} {px:Pos} {dps:List Nat} {dr:Nat} {F:List D→Option (D × En)} (G:Kn X.prog X.w X.K X.mg X.base k x ps (spF K dps dr F)) (hr:Room k X.A) (hg:Gl X x) (ha:QA X (e :: es) (tFA K p ds ds1 sh fa)) (hns:e9 sh=true) (hcd:dh ds1 sh dps=true) (hdb:(x == ("__debug__" : Str))=false) (he:aK e=true) (hpl:es.all aK=true):QE X (.Call (.Name x px) (e :: es) [] pos) (tF K p ds ds1 dr (aO F fa)):=⟨CF G hr hg ha.h hns hcd hdb he hpl⟩
theorem bC {k:Nat} {x:Str} {ps:List Str} {px:Pos} {dps:List Nat} {dr:Nat} {F:List D→Option (D × En)} (G:Kn X.prog X.w X.K X.mg X.base k x ps (spF K dps dr F)) (hr:Room k X.A) (hg:Gl X x) (ha:QA X (e :: es) (tFA K false ds ds1 sh fa)) (hcd:dh ds1 sh dps=true) (hdb:(x == ("__debug__" : Str))=false) (he:aK e=true) (hpl:es.all aK=true):QE X (.Call (.Name x px) (e :: es) [] pos) (tF K false ds ds1 dr (aO F fa)):=⟨BK G hr hg ha.h hcd hdb he hpl⟩
theorem kX {k:Nat} {x:Str} {ps:List Str} {px:Pos} {dr:Nat} {F:List D→Option (D × En)} (G:Kn X.prog X.w X.K X.mg X.base k x ps (spF K [] dr F)) (hr:Room k X.A) (hg:Gl X x) (hdb:(x == ("__debug__" : Str))=false):QE X (.Call (.Name x px) [] [] pos) (tF K p ds ds dr (aO F ah)):=⟨BL G hr hg hdb⟩
theorem a8 {g:D→D→Option D} (ho:IxR X (rF2 K g d)) (ha:QE X a (tF K p ds ds1 d1 f1)) (hb:QE X b (tF K p ds1 ds2 d2 f2)) (hs:fr b):QE X (.Subscript a b pos) (tF K p ds ds2 d (e2 g f1 f2)):=⟨CC ho ha.h hb.h hs⟩
theorem cK {x:Str} {px:Pos} (hK:X.K=K) (hN:X.N[i]?=some x) (hv:Vis X.env.scope x) (h1:ds1[i]?=some 1) (hb:QE X b (tF K p ds ds1 d1 f)) (hs:fr b) (hd:(x == ("__debug__" : Str))=false) (hcd:(x == ("__classdict__" : Str))=false):QE X (.Subscript (.Name x px) b pos) (tF K p ds ds1 0 (bM i f)):=⟨BH hK hN hv h1 hb.h hs hd hcd⟩
theorem qg {c:Nat} {x:Str} {px apos cpos:Pos} (hK:X.K=K) (hN:X.N[i]?=some x) (hv:Vis X.env.scope x) (h1:ds1[i]?=some d) (he:QE X e (tF K false ds ds1 c f)) (hz:d≠0) (hc:dn d=c) (hd:(x == ("__debug__" : Str))=false) (hcd:(x == ("__classdict__" : Str))=false) (hbase:attributeBase (.Name x px) "append" X.env (eval (.Name x px) X.env)=eval (.Name x px) X.env) (hfew:((backTo cpos (starEach [e] X.env)).all (fun x=>!x.1) && (backToKw cpos (keywordEach [] X.env)).all (fun x=>x.1.isSome) && decide (([e]:List Expr).length+([]:List Keyword).length+(if ([]:List Keyword).isEmpty then 0 else 1) < 30))=true) (hline:(apos.endLine == cpos.line)=true) (hs:starEach [e] X.env=[(false,eval e X.env)]) (hplain:(backTo cpos (starEach [] X.env)).any (·.1)=false):QE X (.Call (.Attribute (.Name x px) "append" apos) [e] [] cpos) (tF K false ds ds1 3 (ic i f)):=⟨BO hK hN hv h1 he.h hz hc hd hcd hbase hfew hline hs hplain⟩
theorem m6 {c:Nat} {x:Str} {px apos cpos:Pos} (hK:X.K=K) (hN:X.N[i]?=some x) (hv:Vis X.env.scope x) (h1:ds1[i]?=some d) (he:QE X e (tF K false ds ds1 d1 f)) (hz:d≠0) (hc:dn d=c) (hd:(x == ("__debug__" : Str))=false) (hcd:(x == ("__classdict__" : Str))=false) (hbase:attributeBase (.Name x px) "pop" X.env (eval (.Name x px) X.env)=eval (.Name x px) X.env) (hfew:((backTo cpos (starEach [e] X.env)).all (fun x=>!x.1) && (backToKw cpos (keywordEach [] X.env)).all (fun x=>x.1.isSome) && decide (([e]:List Expr).length+([]:List Keyword).length+(if ([]:List Keyword).isEmpty then 0 else 1) < 30))=true) (hline:(apos.endLine == cpos.line)=true) (hs:starEach [e] X.env=[(false,eval e X.env)]) (hplain:(backTo cpos (starEach [] X.env)).any (·.1)=false):QE X (.Call (.Attribute (.Name x px) "pop" apos) [e] [] cpos) (tF K false ds ds1 c (dt i f)):=⟨p8 hK hN hv h1 he.h hz hc hd hcd hbase hfew hline hs hplain⟩
theorem dk  : QTs X [] (tFT K p ds ds cY):=⟨xi⟩
theorem oo (hc:QT X c (tFT K p ds ds1 c1)):QTs X [c] (tFT K p ds ds1 c1):=⟨xh hc.h⟩
theorem gP {elt tg iter:Expr} {ifs:List Expr} {scope:Scope} {ns:List Str} {js:List (Option Nat)} {fi:MI} {g:MG} {lk:List Nat} {cd:Nat} (B:BlkOkC X scope ns js) (hc:X.calm=true) (hi:QI X tg iter (tFI K p ds ds1 fi)) (hg:∀ C cl s₀ H₀ fp,QG (aF X scope ns C cl s₀ H₀ fp) tg (tFG K lk dsi dsi g)) (ht:∀ C cl s₀ H₀ fp,QTs (aF X scope ns C cl s₀ H₀ fp) ifs (tFT K true dsi dsi c1)) (he:∀ C cl s₀ H₀ fp,QE (aF X scope ns C cl s₀ H₀ fp) elt (tF K true dsi dsi cd f)) (hcap:dC ds1 js dsi=true) (hd:dn d=cd) (hz:d≠0) (hlk:lk=dB js 0) (hs:∀ x,foldedSetIterable iter X.env x=pure x):QE X (.ListComp elt [⟨tg,iter,ifs,0⟩] scope pos) (tF K p ds ds1 d (eLC true fi g c1 f js)):=⟨CB B hc hi.h (fun C cl s₀ H₀ fp=>(hg C cl s₀ H₀ fp).h) (fun C cl s₀ H₀ fp=>(ht C cl s₀ H₀ fp).h) (fun C cl s₀ H₀ fp=>(he C cl s₀ H₀ fp).h) hcap hd hz hlk hs⟩
theorem p9 {elt tg iter:Expr} {ifs:List Expr} {scope:Scope} {ns:List Str} {js:List (Option Nat)} {fi:MI} {g:MG} {lk:List Nat} {cd:Nat} (B:BlkOkC X scope ns js) (hc:X.calm=true) (hi:QI X tg iter (tFI K false ds ds1 fi)) (hg:∀ C cl s₀ H₀ fp,QG (aF X scope ns C cl s₀ H₀ fp) tg (tFG K lk dsi dsi g)) (ht:∀ C cl s₀ H₀ fp,QTs (aF X scope ns C cl s₀ H₀ fp) ifs (tFT K false dsi dsi c1)) (he:∀ C cl s₀ H₀ fp,QE (aF X scope ns C cl s₀ H₀ fp) elt (tF K false dsi dsi cd f)) (hcap:dC ds1 js dsi=true) (hd:dn d=cd) (hz:d≠0) (hlk:lk=dB js 0) (hs:∀ x,foldedSetIterable iter X.env x=pure x):QE X (.ListComp elt [⟨tg,iter,ifs,0⟩] scope pos) (tF K false ds ds1 d (eLC false fi g c1 f js)):=⟨BG B hc hi.h (fun C cl s₀ H₀ fp=>(hg C cl s₀ H₀ fp).h) (fun C cl s₀ H₀ fp=>(ht C cl s₀ H₀ fp).h) (fun C cl s₀ H₀ fp=>(he C cl s₀ H₀ fp).h) hcap hd hz hlk hs⟩
end
section
variable {X:Cx} {K:PySem.W.Frag} {p p1 p2 q:Bool} {J:Jd} {ds ds0 ds1 ds2 ds' dsi dps:List Nat} {d d' d1 d2 dr:Nat} {a b c e tg iter:Expr} {es:List Expr} {st:Stmt} {rest body bodyB:List Stmt} {f f1 f2 fk fe:ME} {c1 c2:MT} {fa:MA} {sh:Sh} {pos px:Pos} {i:Nat} {x:Str} {m m1 m2:MS} {g:MG} {gs:List D→En→Option En} {fi:MI} {lk:List Nat}
theorem bt  : QSs X [] (tFS K J ds ds bQ):=⟨xp⟩
theorem ai (h1:QS X st (tFS K J ds ds1 m1)) (h2:QSs X rest (tFS K J ds1 ds2 m2)):QSs X (st :: rest) (tFS K J ds ds2 (au m1 m2)):=⟨pY h1.h h2.h⟩
theorem aw (h1:QS X st (tFS K J ds ds1 m1)):QSs X [st] (tFS K J ds ds1 m1):=⟨xo h1.h⟩
theorem ou (h:QSs X rest (tFS K J ds ds2 m)) (hd:leD ds1 ds2=true):QSs X rest (tFS K J ds ds1 m):=⟨xn h.h hd⟩
theorem oD (he:QE X e (tF K false ds ds1 d f)) (hs:swapsWith e none pos.line X.env=pure false):QS X (.Expr e pos) (tFS K J ds ds1 (jl f)):=⟨xx he.h hs⟩
theorem aD (he:QE X e (tF K false ds ds1 J.dr f)) (hd:leD J.dsr ds1=true):QS X (.Return (some e) pos) (tFS K J ds ds' (aR f)):=⟨xv he.h hd⟩
theorem bB (hc:QT X c (tFT K false ds ds1 c1)) (ha:QSs X body (tFS K J ds1 ds2 m1)) (hb:QSs X bodyB (tFS K J ds1 ds2 m2)):QS X (.If c body bodyB pos) (tFS K J ds ds2 (sIf c1 m1 m2)):=⟨Bu hc.h ha.h hb.h⟩
theorem ap {x:Str} {pos':Pos} (hN:X.N.Nodup) (hi:X.N[i]?=some x) (hx:Loc X.env.scope x) (he:QE X e (tF K false ds ds1 d f)) (hds:ds1.set i d=ds') (hl:i < ds1.length) (hk:i ∉ J.lk) (hs:swapsWith e (some (.Name x pos')) pos.line X.env=pure false) (hf:X.fn x=true∨X.env.scope.names.lookup x=some .local):QS X (.Assign [.Name x pos'] e pos) (tFS K J ds ds' (aC i f)):=⟨xu hN hi hx he.h hds hl hk hs hf⟩
theorem lD {x:Str} {spos pos':Pos} {elt:Expr} {ifs:List Expr} {scope:Scope} {ns:List Str} {js:List (Option Nat)} {cd:Nat} (hN:X.N.Nodup) (hi':X.N[i]?=some x) (hx:X.env.scope.names.lookup x=some .local) (B:BlkOkC X scope ns js) (hc:X.calm=true) (hi:QI X tg iter (tFI K false ds ds1 fi)) (hg:∀ C cl s₀ H₀ fp,QG (aF X scope ns C cl s₀ H₀ fp) tg (tFG K lk dsi dsi g)) (ht:∀ C cl s₀ H₀ fp,QTs (aF X scope ns C cl s₀ H₀ fp) ifs (tFT K q dsi dsi c1)) (he:∀ C cl s₀ H₀ fp,QE (aF X scope ns C cl s₀ H₀ fp) elt (tF K q dsi dsi cd f)) (hds:ds1.set i d=ds') (hcap:dC ds1 js dsi=true) (hd:dn d=cd) (hz:d≠0) (hlk:lk=dB js 0) (hl:i < ds1.length) (hk:i ∉ J.lk) (hsw:swapsWith (.ListComp elt [⟨tg,iter,ifs,0⟩] scope pos) (some (.Name x pos')) spos.line X.env=pure true) (hs:∀ x,foldedSetIterable iter X.env x=pure x):QS X (.Assign [.Name x pos'] (.ListComp elt [⟨tg,iter,ifs,0⟩] scope pos) spos) (tFS K J ds ds' (aC i (eLC q fi g c1 f js))):=⟨oC hN hi' hx B hc hi.h (fun C cl s₀ H₀ fp=>(hg C cl s₀ H₀ fp).h) (fun C cl s₀ H₀ fp=>(ht C cl s₀ H₀ fp).h) (fun C cl s₀ H₀ fp=>(he C cl s₀ H₀ fp).h) hds hcap hd hz hlk hl hk hsw hs⟩
theorem iV {c:Nat} {x:Str} {spos:Pos} {k:Expr} (hN:X.N[i]?=some x) (hv:Vis X.env.scope x) (he:QE X e (tF K false ds ds1 c fe)) (hk:QE X k (tF K false ds1 ds2 d2 fk)) (h1:ds2[i]?=some d) (hz:d≠0) (hc:dn d=c) (hdb:(x == ("__debug__" : Str))=false) (hcd:(x == ("__classdict__" : Str))=false) (ha:∀ v,assign (.Subscript (.Name x px) k spos) X.env v=(do
   let ov ← holding [v] (eval (.Name x px) X.env)
   let iv ← holding [v,ov] (eval k X.env)
   standAt spos
   holding [v,ov,iv] (setItem ov iv v)
   release [v,ov,iv] [])) (hs:swapsWithSole [.Subscript (.Name x px) k spos] e pos.line X.env=pure false) (hw:swappedStores [.Subscript (.Name x px) k spos] e X.env=pure none) (h2:(assignEach [.Subscript (.Name x px) k spos] X.env).map (·.2)=[assign (.Subscript (.Name x px) k spos) X.env]):QS X (.Assign [.Subscript (.Name x px) k spos] e pos) (tFS K J ds ds2 (dg i fk fe)):=⟨pZ hN hv he.h hk.h h1 hz hc hdb hcd ha hs hw h2⟩
theorem aY {x:Str} (hN:X.N.Nodup) (hi:X.N[i]?=some x) (hx:Loc X.env.scope x) (hds:ds.set i 0=ds') (hl:i < ds.length) (hk:i ∉ lk) (hf:X.fn x=true∨X.env.scope.names.lookup x=some .local):QG X (.Name x pos) (tFG K lk ds ds' (gN i)):=⟨p6 hN hi hx hds hl hk hf⟩
theorem b8 (hc:X.calm=true) (hi:QI X tg iter (tFI K false ds ds1 fi)) (hg:QG X tg (tFG K J.lk ds1 ds2 g)) (hb:QSs X body (tFS K { J with dsl:=ds1 } ds2 ds1 m)) (hp:PassesOwn (model X.prog X.w) X.A X.env X.xe) (hs:∀ x,foldedSetIterable iter X.env x=pure x):QS X (.For tg iter body [] pos) (tFS K J ds ds1 (dw fi g m)):=⟨xw hc hi.h hg.h hb.h hp hs⟩
end
section
variable {X:Cx} {K:PySem.W.Frag} {p:Bool} {ds ds1:List Nat} {d:Nat} {e tg l:Expr} {f:ME} {fa:MA} {sh:Sh}
theorem ca (hK:X.K=K) (hl:QE X l (tF K p ds ds1 d f)):QI X tg l (tFI K p ds ds1 (cJ f)):=⟨By hK hl.h⟩
theorem dm {a:Expr} {px pos:Pos} (hg:Gl X "range") (hm:X.mg "range"=none) (ha:QA X [a] (tFA K p ds ds1 sh fa)) (hs:aK a=true):QI X tg (.Call (.Name "range" px) [a] [] pos) (tFI K p ds ds1 (cT fa)):=⟨xE hg hm ha.h hs⟩
end
section
variable {X:Cx} {K:PySem.W.Frag} {p:Bool} {ds ds1:List Nat} {d1:Nat} {e:Expr} {f:ME}
theorem dS {T:Str} {n:String} {px pt pos:Pos} (hK:X.K=K) (hg:Gl X "isinstance") (hm:X.mg "isinstance"=none) (hgT:Gl X T) (hmT:X.mg T=none) (hbT:bootBuiltins T=some (.type n)) (hT:n∈["int", "bool", "str", "list", "tuple", "dict"]) (he:QE X e (tF K p ds ds1 d1 f)) (hnT:T≠"__name__") (hdT:(T == ("__debug__" : Str))=false) (hs1:starEach [e,.Name T pt] X.env=(false,eval e X.env) :: starEach [.Name T pt] X.env) (hs2:starEach [.Name T pt] X.env=(false,eval (.Name T pt) X.env) :: starEach [] X.env) (hpl:(backTo pos (starEach [.Name T pt] X.env)).any (·.1)=false):QE X (.Call (.Name "isinstance" px) [e,.Name T pt] [] pos) (tF K p ds ds1 3 (e1 (aH n) f)):=⟨BI hK hg hm hgT hmT hbT hT he.h hnT hdT hs1 hs2 hpl⟩
end
section
variable {X:Cx} {K:PySem.W.Frag} {p:Bool} {J:Jd} {ds ds0 ds1 ds2 ds3 ds':List Nat} {d d' d1 d2 d3:Nat} {a b c e:Expr} {st:Stmt} {f f1 f2 f3:ME} {m:MS} {pos p2:Pos}
theorem oB (h:QS X st (tFS K J ds ds2 m)) (hd:leD ds1 ds2=true):QS X st (tFS K J ds ds1 m):=⟨xt h.h hd⟩
theorem m8 {op op':CmpOp} {g g':D→D→Option D} (ho:OpR X (compareOp op) (rF2 K g 3)) (ho':OpR X (compareOp op') (rF2 K g' 3)) (ha:QE X a (tF K p ds ds0 d1 f1)) (hb:QE X b (tF K p ds0 ds1 d2 f2)) (hc:QE X c (tF K p ds1 ds1 d3 f3)) (hm:lastMarks [op,op'] [b,c]=false):QE X (.Compare a [op,op'] [b,c] pos) (tF K p ds ds1 3 (cB g g' f1 f2 f3)):=⟨qc ho ho' ha.h hb.h hc.h hm⟩
theorem iU {op op':CmpOp} {g g':D→D→Option D} (ho:OpR X (compareOp op) (rF2 K g 3)) (ho':OpR X (compareOp op') (rF2 K g' 3)) (ha:QE X a (tF K p ds ds0 d1 f1)) (hb:QE X b (tF K p ds0 ds1 d2 f2)) (hc:QE X c (tF K p ds1 ds1 d3 f3)) (hm:lastMarks [op,op'] [b,c]=false):QT X (.Compare a [op,op'] [b,c] pos) (tFT K p ds ds1 (tV (cB g g' f1 f2 f3))):=⟨pX ho ho' ha.h hb.h hc.h hm⟩
theorem aE  : QO X none (tFO K p ds ds aN):=⟨xB⟩
theorem am (h:QE X e (tF K p ds ds1 d f)):QO X (some e) (tFO K p ds ds1 (az f)):=⟨xz h.h⟩
variable {lo hi:MO}
theorem ao {g:D→Option Int→Option Int→Option D} {elo ehi:Option Expr} (hr:SlR X (rFs K g d)) (he:QE X e (tF K p ds ds1 d1 f)) (hl:QO X elo (tFO K p ds1 ds2 lo)) (hu:QO X ehi (tFO K p ds2 ds3 hi)):QE X (.Subscript e (.Slice elo ehi none p2) pos) (tF K p ds ds3 d (eSl g f lo hi)):=⟨p7 hr he.h hl.h hu.h⟩
end
section
variable {X:Cx} {K:PySem.W.Frag} {p:Bool} {J:Jd} {ds ds0 ds1 ds2 ds':List Nat} {d d' d1 d2:Nat} {a b c e o k:Expr} {f f1 f2 fk fe:ME} {pos px spos:Pos} {i:Nat} {σ:St} {H:Hp} {Q:VK} {Dn:Ends}
theorem gk  : QE X (.Dict [] [] pos) (tF K p ds ds 3 dH):=⟨xK⟩
theorem pW (hu:X.A.units+1 < cLine) (ha:QE X a (tF K p ds ds1 d1 f1)) (hb:QE X b (tF K p ds1 ds2 d2 f2)) (h1:behindInMarks .In b=false):QT X (.Compare a [.In] [b] pos) (tFT K p ds ds2 (tV (e2 dIn f1 f2))):=⟨Bm hu ha.h hb.h h1⟩
theorem mZ {x:Str} (hu:X.A.units+1 < cLine) (hN:X.N[i]?=some x) (hv:Vis X.env.scope x) (he:QE X e (tF K false ds ds1 0 fe)) (hk:QE X k (tF K false ds1 ds2 d2 fk)) (h1:ds2[i]?=some 1) (hdb:(x == ("__debug__" : Str))=false) (hcd:(x == ("__classdict__" : Str))=false) (hs:swapsWith e (some (.Subscript (.Name x px) k spos)) pos.line X.env=pure false):QS X (.Assign [.Subscript (.Name x px) k spos] e pos) (tFS K J ds ds2 (gE i fk fe)):=⟨p0 hu hN hv he.h hk.h h1 hdb hcd hs⟩
end
section
variable {X:Cx} {K:PySem.W.Frag} {p:Bool} {J:Jd} {ds ds0 ds1 ds2 ds':List Nat} {d d' d1 d2:Nat} {a b c e o k:Expr} {es:List Expr} {f f1 f2 fk fe:ME} {fa:MA} {sh:Sh} {pos px spos:Pos} {i j:Nat} {σ:St} {H:Hp} {Q:VK} {Dn:Ends}
end
section
variable {X:Cx} {K:PySem.W.Frag} {p:Bool} {ds ds1:List Nat} {O:AS} {H:Hp} {σ:St} {d:Nat} {f:ME} {i:Nat} {e:Expr} {Q:VK}
end
section
variable {X:Cx} {K:PySem.W.Frag} {p:Bool} {ds ds1:List Nat} {d:Nat} {fa:MA} {sh:Sh} {O O1:AS} {H0 H:Hp} {ts us:List D} {vs ws:List V} {a b:Addr}
end
section
variable {X:Cx} {K:PySem.W.Frag} {p:Bool} {ds ds1:List Nat} {d1:Nat} {e:Expr} {f:ME}
end
section
variable {X:Cx} {K:PySem.W.Frag} {p p1 p2:Bool} {ds ds1 ds2:List Nat} {d d1:Nat} {e:Expr} {f:ME} {fa:MA} {sh:Sh} {σ:St} {H:Hp} {Q:VK}
theorem dq {o:Expr} {es:List Expr} {name:Str} {id:String} {apos cpos:Pos} {r:V→List V→Hp→VK→Prop} {g:Str→List D→Option D} (hK:X.K=K) (slot:Slot "str" name id) (hty:typeOf (.builtin id)=pure (.type "method_descriptor")) (hm:MtR X id r) (hr:MtF K r g) (ho:QE X o (tF K p ds ds1 d1 f)) (ha:QA X (e :: es) (tFA K p ds1 ds2 sh fa)) (hsh:bE 0 sh=true) (hbase:attributeBase o name X.env (eval o X.env)=eval o X.env) (hfew:((backTo cpos (starEach (e :: es) X.env)).all (fun x=>!x.1) && (backToKw cpos (keywordEach [] X.env)).all (fun x=>x.1.isSome)
   && decide ((e :: es).length+([]:List Keyword).length+(if ([]:List Keyword).isEmpty then 0 else 1) < 30))=true) (hline:(apos.endLine == cpos.line)=true) (hs:starEach (e :: es) X.env=(false,eval e X.env) :: starEach es X.env) (hplain:(backTo cpos (starEach es X.env)).any (·.1)=false):QE X (.Call (.Attribute o name apos) (e :: es) [] cpos) (tF K p ds ds2 3 (eM g f fa)):=⟨xG hK slot hty hm hr ho.h ha.h hsh hbase hfew hline hs hplain⟩
end
section
variable {X:Cx} {K:PySem.W.Frag} {p p1 p2:Bool} {J:Jd} {ds ds1 ds2:List Nat} {H:Hp} {σ:St} {d d1 d2 i m:Nat} {f fk fe:ME} {mp:MP} {e b o:Expr} {Q:VK}
end
section
variable {X:Cx} {K:PySem.W.Frag} {p p1 p2:Bool} {ds ds1 ds2:List Nat} {d d1 d2:Nat} {e k:Expr} {f f1 f2:ME} {fa:MA} {sh:Sh} {σ:St} {H:Hp} {Q Q':VK} {pos pos2 px py:Pos}
theorem lE (hK:X.K=K) (hc:X.calm=true) (hg:Gl X "len") (hm:X.mg "len"=none) (hg2:Gl X "set") (hm2:X.mg "set"=none) (hb:bootBuiltins "len"=some (.builtin "len")) (hb2:bootBuiltins "set"=some (.type "set")) (he:QE X e (tF K p ds ds1 d1 f)) (hs:aK e=true):QE X (.Call (.Name "len" px) [.Call (.Name "set" py) [e] [] pos2] [] pos) (tF K p ds ds1 3 (e1 iG f)):=⟨oH hK hc hg hm hg2 hm2 hb hb2 he.h hs⟩
theorem oG (hK:X.K=K) (he:QE X e (tF K p ds ds1 d1 f1)) (hk:QE X k (tF K p ds1 ds2 d2 f2)):QE X (.Subscript e (.Slice none none (some k) pos2) pos) (tF K p ds ds2 0 (e2 gI f1 f2)):=⟨xH hK he.h hk.h⟩
theorem jH (he:QE X e (tF K p ds ds1 d1 f1)) (hk:QE X k (tF K p ds1 ds2 d2 f2)):QE X (.Subscript e (.Slice none none (some k) pos2) pos) (tF K p ds ds2 3 (e2 fE f1 f2)):=⟨xI he.h hk.h⟩
end
section
variable {X:Cx} {K:PySem.W.Frag} {p p1 p2:Bool} {ds ds1 ds2:List Nat} {d d1 d2:Nat} {a b:Expr} {f f1 f2:ME} {σ:St} {H:Hp} {Q Q':VK} {pos:Pos} {ta tb:TE} {rest:List Expr}
end
section
variable {X:Cx} {K:PySem.W.Frag} {p p1 p2:Bool} {ds ds1 ds2:List Nat} {d d1 d2:Nat} {a b:Expr} {f f1 f2:ME} {σ:St} {H:Hp} {Q Q':VK} {pos:Pos}
end
section
variable {X:Cx} {K:PySem.W.Frag} {p p1 p2:Bool} {ds ds1 ds2:List Nat} {d d1 d2:Nat} {e:Expr} {f f1 f2:ME} {σ:St} {H:Hp} {Q Q':VK}
end
section
variable {X:Cx} {K:PySem.W.Frag} {p:Bool} {ds ds1 ds2:List Nat} {d d1 d2:Nat} {e:Expr} {f f1 f2:ME} {σ:St} {H:Hp} {Q Q':VK}
end
section
variable {X:Cx} {K:PySem.W.Frag} {p p1 p2:Bool} {ds ds1 ds2:List Nat} {d d1 d2:Nat} {e k:Expr} {f f1 f2:ME} {fa:MA} {sh:Sh} {σ:St} {H:Hp} {Q Q':VK} {pos pos2 px py:Pos}
end
section
variable {X:Cx} {K:PySem.W.Frag} {p p1 p2:Bool} {ds ds1 ds2:List Nat} {d d1 d2:Nat} {e:Expr} {f f1 f2:ME} {σ:St} {H:Hp} {Q Q':VK} {i:Nat}
end
section
variable {X:Cx} {K:PySem.W.Frag} {p p1 p2 q:Bool} {J:Jd} {ds ds0 ds1 ds2 ds' dsi dps:List Nat} {d d' d1 d2 dr:Nat} {a b c e tg iter:Expr} {es:List Expr} {st:Stmt} {rest body bodyB:List Stmt} {f f1 f2 fk fe:ME} {c1 c2:MT} {fa:MA} {sh:Sh} {pos px:Pos} {i:Nat} {x:Str} {m m1 m2:MS} {g:MG} {gs:List D→En→Option En} {fi:MI} {lk:List Nat}
end
section
variable {X:Cx} {K:PySem.W.Frag} {p:Bool} {ds ds1:List Nat} {d:Nat} {fa:MA} {sh:Sh} {O O1:AS} {H0 H:Hp} {ts us:List D} {vs ws:List V} {a b:Addr}
end
section
variable {X:Cx} {K:PySem.W.Frag} {J:Jd} {lk ds ds0 ds1 ds2 ds':List Nat} {e tg:Expr} {es:List Expr} {f:ME} {pos px:Pos} {i:Nat} {g:MG} {gs:List D→En→Option En}
end
section
variable {X:Cx} {K:PySem.W.Frag} {p:Bool} {ds:List Nat} {k v:Expr} {fk fv:ME} {pos:Pos} {σ:St} {H:Hp} {Q:VK} {O:AS}
theorem m7 (hu:X.A.units+64 < cLine) (hk:QE X k (tF K p ds ds 0 fk)) (hv:QE X v (tF K p ds ds 3 fv)):QE X (.Dict [some k] [v] pos) (tF K p ds ds 0 (dU fk fv)):=⟨qb hu hk.h hv.h⟩
end
end L2
namespace L2
open PySem PySem.Spec PyProof.Rows
theorem Fun.okQ {P:Program} {w:World} {K:PySem.W.Frag} {mg:Str→Option Value} {base:Heap} {x qual:Str} {st:Stmt} {f:Addr} {fd:FuncData} {N ps:List Str} {k n dr:Nat} {dps ds0:List Nat} {J:Jd} {b:MS}
  (F:Fun K x qual st f fd) (S:FnScope N ps (ay st)) (hl:dps.length=ps.length) (hn:N.length - dps.length=n) (hJ:J=⟨kF dps,dps++List.replicate n 0,dr,[]⟩) (hd:ds0=dps++List.replicate n 0)
  (hb:∀ (cdv:Value) (A:Around) (outer:List Env) (s:Shared) (H:Hp) (E:XK),Room k (A.deeper (envOfC qual (ay st) s.heap.objs.size f cdv)) →
   QSs (ig CX0 P w K mg base N qual (ay st) f cdv A outer s H E).nox (bV st) (tFS K J ds0 ds0 b)):FnOk P w K mg base CX0 (k+1) f fd ps (spF K dps dr (fnF n dps b)):=by
 subst hJ hd
 exact F.ok S (fun vs H Q E h=>wE hl h) fun cdv A outer s H vs Q E hr h=>⟨_,(hb cdv A outer s H E hr).h,xD hn h⟩
def A3 (F:List D→Option (D × En)):Prop:=∀ ns:List Int,ns.length≤63→∃ outs,F [.list (ns.map .int)]=some (.bool true,outs)
def iA (K:PySem.W.Frag):Sp:=fun vs H Q _=>∃ (a:Addr) (ns:List Int),vs=[.ref a]∧SqL K H a (ns.map V.int)∧(∀ b,H b=none∨∃ o xs,H b=some (.frz o (.lst xs)))∧ns.length≤63∧∀ H':Hp,Q (.bl true) H'
theorem gW {K:PySem.W.Frag} {O:AS} {H:Hp}:∀ ns:List Int,Ows K O H (ns.map .int) 0 (ns.map V.int) NoA
 | []=>rfl
 | n :: r=>⟨.int n,r.map V.int,NoA,NoA,rfl,fun _ z=>z,fun _ z=>z,fun _ z=>z.elim,rfl,gW r⟩
theorem A1 {K:PySem.W.Frag} {dr:Nat} {F:List D→Option (D × En)} (h:A3 F) {vs:List V} {H:Hp} {Q:VK} {E:XK} (q:iA K vs H Q E):spF K [0] dr F vs H Q E:=by
 obtain ⟨a,ns,rfl,hs,_,hl,q⟩:=q
 obtain ⟨outs,e⟩:=h ns hl
 have fz:FzL K (fun _=>False) H a (ns.map V.int):=by
  rcases hs with hs | hs
  ·exact .inl ⟨hs,fun z=>z⟩
  ·exact .inr fun H'=>.inr hs
 have eO:Own (fun _=>NoA) NoA=(fun _=>False):=di fun b=>⟨fun z=>z.elim (fun ⟨_,z⟩=>z) fun z=>z,fun z=>z.elim⟩
 refine ⟨NoA,[.list (ns.map .int)],fun _=>NoA,.bool true,outs,⟨fun i t hi=>?_,fun _ _ _ z=>z.elim,fun _ _ z=>z.elim,fun b z=>?_,rfl,rfl⟩,e,fun v H' R' Fr _ o=>?_⟩
 ·cases i with
  | zero =>
   have:t=.list (ns.map .int):=by
    have h2:some (some (PyData.list (ns.map .int)))=some (some t):=hi
    injection h2 with h3
    injection h3 with h4
    exact h4.symm
   subst this
   refine ⟨.ref a,0,rfl,rfl,?_⟩
   rw [eO]
   exact ⟨a,ns.map V.int,rfl,.inl ⟨rfl,fz,gW ns⟩⟩
  | succ i=>simp at hi
 ·rw [eO] at z
  exact z.elim
 ·rw [show v=.bl true from o]
  exact q H'
end L2
namespace L2
open PySem PySem.Spec PyProof.Rows
section
variable {c:MT} {b:MS} {en en1 en2:En} {fl:Fl} {t:D}
theorem dE {c:MT} {f:ME} {p:D→Bool} {F:D→D} {rest:En}:∀ (ts acc:List D) (o:Option D),(∀ t∈ts,c (some t :: rest)=some (p t,some t :: rest))→(∀ t∈ts,p t=true→f (some t :: rest)=some (F t,some t :: rest))→acc.length+ts.length≤sizeLine →
  ∃ o',lcF (gN 0) c f ts acc (o :: rest)=some (acc++(ts.filter p).map F,o' :: rest)
 | [],acc,o,_,_,_=>⟨o,by simp [lcF]⟩
 | t :: ts,acc,o,hc,hf,hl=>by
  have hl':acc.length+(ts.length+1)≤sizeLine:=hl
  cases hp:p t with
  | true =>
   obtain ⟨o',h⟩:=dE (c:=c) (f:=f) (p:=p) (F:=F) ts (acc++[F t]) (some t) (fun x hx=>hc x (List.mem_cons_of_mem _ hx)) (fun x hx=>hf x (List.mem_cons_of_mem _ hx)) (by rw [List.length_append]; show acc.length+1+_≤_; omega)
   refine ⟨o',?_⟩
   unfold lcF
   show ((c (some t :: rest)).bind _)=_
   rw [hc t List.mem_cons_self,hp]
   show ((f (some t :: rest)).bind _)=_
   rw [hf t List.mem_cons_self hp]
   show (if acc.length < sizeLine then _ else _)=_
   rw [if_pos (by omega)]
   dsimp only
   rw [h,List.filter_cons_of_pos hp]
   simp
  | false =>
   obtain ⟨o',h⟩:=dE (c:=c) (f:=f) (p:=p) (F:=F) ts acc (some t) (fun x hx=>hc x (List.mem_cons_of_mem _ hx)) (fun x hx=>hf x (List.mem_cons_of_mem _ hx)) (by omega)
   refine ⟨o',?_⟩
   unfold lcF
   show ((c (some t :: rest)).bind _)=_
   rw [hc t List.mem_cons_self,hp]
   show lcF (gN 0) c f ts acc (some t :: rest)=_
   rw [h,List.filter_cons_of_neg (by rw [hp]; decide)]
theorem w8 {f:ME} {F:D→D} {rest:En} (ts acc:List D) (o:Option D) (hf:∀ t∈ts,f (some t :: rest)=some (F t,some t :: rest)) (hl:acc.length+ts.length≤sizeLine) :
  ∃ o',lcF (gN 0) cY f ts acc (o :: rest)=some (acc++ts.map F,o' :: rest):=by
 obtain ⟨o',h⟩:=dE (c:=cY) (f:=f) (p:=fun _=>true) (F:=F) ts acc o (fun _ _=>rfl) (fun t ht _=>hf t ht) hl
 rw [List.filter_eq_self.mpr (fun _ _=>rfl)] at h
 exact ⟨o',h⟩
end
section
variable {c c1 c2:MT} {m1 m2 b:MS} {en en1 en2:En} {fl:Fl} {t t1 t2 u:D} {f f1 f2:ME} {g:D→D→Option D} {fa:MA} {i n:Nat} {x y:Bool} {F:List D→Option (D × En)} {as:List (D ⊕ Nat)} {ts:List D} {outs:En} {dps:List Nat}
theorem cb (h1:m1 en=some (.nx en1)) (h2:m2 en1=some fl):au m1 m2 en=some fl:=by unfold au; rw [h1]; exact h2
theorem oM (h1:m1 en=some (.rt t en1)):au m1 m2 en=some (.rt t en1):=by unfold au; rw [h1]; rfl
theorem k7 {b:Bool} (h1:c en=some (b,en1)) (hb:b=true) (h2:m1 en1=some fl):sIf c m1 m2 en=some fl:=by unfold sIf; rw [h1,hb]; exact h2
theorem k8 {b:Bool} (h1:c en=some (b,en1)) (hb:b=false) (h2:m2 en1=some fl):sIf c m1 m2 en=some fl:=by unfold sIf; rw [h1,hb]; exact h2
theorem iY (h:f en=some (t,en1)) (he:en1.set i (some t)=en2):aC i f en=some (.nx en2):=by unfold aC; rw [h,← he]; rfl
theorem m9 (h:f en=some (t,en1)):aR f en=some (.rt t en1):=by unfold aR; rw [h]; rfl
theorem bw (h1:f1 en=some (t1,en1)) (h2:f2 en1=some (t2,en2)) (h:g t1 t2=some u):e2 g f1 f2 en=some (u,en2):=by
 unfold e2
 rw [h1]
 show (f2 en1).bind _=_
 rw [h2]
 show (g t1 t2).map _=_
 rw [h]
 rfl
theorem mf {b:Bool} {r:Bool × En} (h1:c1 en=some (b,en1)) (hb:b=true) (h2:c2 en1=some r):dW c1 c2 en=some r:=by unfold dW; rw [h1,hb]; exact h2
theorem xR {b:Bool} (h1:c1 en=some (b,en1)) (hb:b=false):dW c1 c2 en=some (false,en1):=by unfold dW; rw [h1,hb]; rfl
theorem fO {b:Bool} (h:f en=some (.bool b,en1)):tV f en=some (b,en1):=by unfold tV; rw [h]; rfl
theorem na {g:List D→Option D} (h1:fa en=some (as,en1)) (h2:be as=some ts) (h:g ts=some t):eN g fa en=some (t,en1):=by
 unfold eN
 rw [h1]
 show (be as).bind _=_
 rw [h2]
 show (g ts).map _=_
 rw [h]
 rfl
theorem nb {r:MA} (h1:f en=some (t,en1)) (h2:r en1=some (as,en2)):ad f r en=some (.inl t :: as,en2):=by
 unfold ad
 rw [h1]
 show (r en1).map _=_
 rw [h2]
 rfl
theorem oN (h1:fa en=some (as,en1)) (h2:be as=some ts) (h:ts.length≤sizeLine):aZ fa en=some (.list ts,en1):=by
 unfold aZ
 rw [h1]
 show (be as).bind _=_
 rw [h2]
 exact if_pos h
theorem aT:100≤sizeLine:=by rw [sizeLine_eq]; decide
theorem iX (h:b (ts.map some++List.replicate n none)=some (.rt t en)):fnF n dps b ts=some (t,msk dps en):=by
 unfold fnF
 rw [h]
 rfl
end
namespace Pen2
def bO:MS:=(aR (CU [((eC (.str "script")),(ae 0)),((eC (.str "at")),(ae 1)),((eC (.str "left")),(eC (.int 0)))]))
def F_law_pen:List D→Option (D × En):=fnF 0 [0,0] bO
end Pen2
end L2
namespace L2
open PySem PySem.Spec PyProof.Rows
theorem BU (a b:Int):eqD (.int a) (.int b)=some (.bool (a == b)):=by
 show grd _ _=_
 unfold grd
 rw [if_pos ⟨rfl,rfl,Nat.zero_le _⟩]
 simp only [peq]
theorem AX (a b:Int):neD (.int a) (.int b)=some (.bool (!(a == b))):=by
 show grd _ _=_
 unfold grd
 rw [if_pos ⟨rfl,rfl,Nat.zero_le _⟩]
 simp only [peq]
end L2
namespace L2
open PySem PySem.Spec PyProof.Rows
structure Df (K:PySem.W.Frag) (x:Str) (st:Stmt) (f:Addr):Prop where
 a:PySem.W.nsIn K mainGlobals x=some (some (.ref f))
 l:∃ oc od kV dc pm an cd ct sl,K.lookup f=some ⟨oc,od,.func (PySem.W.fnOf x x (cP st) (bV st) (ay st) .none kV dc pm an cd ct),sl⟩∧PySem.W.codeIn K cd x=true
 k:PySem.W.keepIn K (.ref f)=true
section
variable {P:Program} {w:World} {K:PySem.W.Frag} {mg:Str→Option Value} {base h:Heap} {k dr:Nat} {x:Str} {ps:List Str} {dps:List Nat} {f:Addr} {st:Stmt} {sp:Sp}
theorem Df.mk' {oc:Value} {od an:Option Addr} {sl:Array (Option Value)} {kV dc pm cd ct:Value} (a:PySem.W.nsIn K mainGlobals x=some (some (.ref f))) (l:K.lookup f=some ⟨oc,od,.func (PySem.W.fnOf x x (cP st) (bV st) (ay st) .none kV dc pm an cd ct),sl⟩) (c:PySem.W.codeIn K cd x=true) (k:PySem.W.keepIn K (.ref f)=true):Df K x st f :=
 ⟨a,⟨oc,od,kV,dc,pm,an,cd,ct,sl,l,c⟩,k⟩
theorem Df.kn (d:Df K x st f) (X:K.In h) (G:h.Ns mainGlobals mg) (b:∀ (kV doc pm:Value) (an:Option Addr) (cdv ct:Value) (us:List Value),us.length=ps.length→bindArgs (PySem.W.fnOf x x (cP st) (bV st) (ay st) .none kV doc pm an cdv ct) ⟨us,[]⟩=pure (ps.zip us))
  (ok:∀ fd,Fun K x x st f fd→FnOk P w K mg base CX0 k f fd ps sp):Kn P w K mg base k x ps sp:=by
 obtain ⟨_,_,_,_,_,_,_,_,_,l,c⟩:=d.l
 have F:=on (st:=st) l c d.k
 exact ⟨_,_,ok _ F,PySem.W.mg_of X G d.a,d.k,F.binds b⟩
end
end L2
namespace L2
namespace Pen3
open PySem L2
theorem sl1000:1000≤sizeLine:=by rw [sizeLine_eq]; decide
def bO:MS:=(au (aC 2 (eC (.int 0)))
 (au (sIf (tV (e2 gtI (eN bp (ad (ae 0) ah)) (eC (.int 0)))) (aC 2 (e2 ixA (ae 0) (e2 bL (ae 1) (eN bp (ad (ae 0) ah))))) bQ)
 (au (sIf (dW (tV (e2 ltI (ae 1) (eN bp (ad (ae 0) ah)))) (tV (e2 geI (eN il (ad (ae 2) ah)) (e2 kw (eC (.int 10)) (eC (.int 18)))))) (aR (aZ (ad (eN il (ad (ae 2) ah)) (ad (eC (.int 0)) (ad (eC (.int 0)) ah))))) bQ)
 (aR (aZ (ad (eC (.int 0)) (ad (e2 bi (e2 bL (ae 2) (eC (.int 999999937))) (e2 cI (eC (.int 70001)) (ae 1))) (ad (eC (.int 0)) ah))))))))
def F_law_pen:List D→Option (D × En):=fnF 1 [0,0] bO
def cu:MS:=(au (sIf (tV (e2 gtI (bM 0 (eC (.int 0))) (eC (.int 0)))) (au (aC 2 (e2 bL (bM 0 (eC (.int 0))) (ae 1)))
 (au (dg 0 (eC (.int 0)) (e2 dG (bM 0 (eC (.int 0))) (ae 1)))
 (aR (ae 2)))) bQ)
 (au (dg 0 (eC (.int 2)) (e2 bi (bM 0 (eC (.int 2))) (eC (.int 1))))
 (au (aC 3 (e2 bL (e2 bi (e2 bi (e2 cI (bM 0 (eC (.int 1))) (eC (.int 48271))) (e2 cI (bM 0 (eC (.int 2))) (eC (.int 39373)))) (eC (.int 11))) (eC (.int 2147483647))))
 (au (aC 3 (e2 bL (e2 cI (ae 3) (e2 bi (e2 bL (ae 3) (eC (.int 65521))) (bM 0 (eC (.int 2))))) (eC (.int 2147483629))))
 (aR (e2 bL (e2 dG (ae 3) (eC (.int 64))) (ae 1)))))))
def F_law_draw:List D→Option (D × En):=fnF 2 [1,0] cu
def cv (a b c:Int):D:=.list [.int a,.int b,.int c]
def IsPen (t:D):Prop:=∃ a b c,t=cv a b c
theorem draw_ok {p:D} {m:Int} (hp:IsPen p) (h3:0 < m) (h4:m < 1073741824):∃ r p',F_law_draw [p,.int m]=some (.int r,[some p',none])∧0≤r∧r < m∧IsPen p':=by
 obtain ⟨a,b,c,rfl⟩:=hp
 have cd:∀ z,fW z m:=fun z=>⟨h3,h4⟩
 have md:∀ z,bL (.int z) (.int m)=some (.int (z % m)):=fun z=>if_pos h3
 have dv:∀ z,dG (.int z) (.int m)=some (.int (z / m)):=fun z=>if_pos (cd z)
 by_cases ha:0 < a
 ·refine ⟨a % m,cv (a / m) b c,?_,Int.emod_nonneg _ (by omega),Int.emod_lt_of_pos _ h3,_,_,_,rfl⟩
  refine iX (b:=cu) (en:=[some (cv (a / m) b c),some (.int m),some (.int (a % m)),none]) (oM (k7 (b:=decide ((0:Int) < a)) rfl (decide_eq_true ha) (cb (en1:=[some (cv a b c),some (.int m),some (.int (a % m)),none]) (iY (bw (t1:=.int a) (t2:=.int m) rfl rfl (md a)) rfl) (cb (en1:=[some (cv (a / m) b c),some (.int m),some (.int (a % m)),none]) ?_ rfl))))
  unfold dg
  rw [bw (t1:=.int a) (t2:=.int m) (f1:=bM 0 (eC (.int 0))) (f2:=ae 1) (g:=dG) (en:=[some (cv a b c),some (.int m),some (.int (a % m)),none]) (en1:=[some (cv a b c),some (.int m),some (.int (a % m)),none]) (en2:=[some (cv a b c),some (.int m),some (.int (a % m)),none]) rfl rfl (dv a)]
  rfl
 ·generalize g1:(b * 48271+(c+1) * 39373+11) % 2147483647=x
  have x0:0≤x:=by omega
  have x1:x < 2147483647:=by omega
  generalize g2:x * (x % 65521+(c+1)) % 2147483629=y
  refine ⟨y / 64 % m,cv a b (c+1),?_,Int.emod_nonneg _ (by omega),Int.emod_lt_of_pos _ h3,_,_,_,rfl⟩
  have c1:cI (.int b) (.int 48271)=some (.int (b * 48271)):=if_pos (.inr (by decide))
  have c2:cI (.int (c+1)) (.int 39373)=some (.int ((c+1) * 39373)):=if_pos (.inr (by decide))
  have c3:cI (.int x) (.int (x % 65521+(c+1)))=some (.int (x * (x % 65521+(c+1)))):=if_pos (.inl (by constructor <;> omega))
  have c80:fW y 64:=⟨by decide,by decide⟩
  have c8:dG (.int y) (.int 64)=some (.int (y / 64)):=by
   show (if fW y 64 then some (PyData.int (y / 64)) else none)=_
   rw [if_pos c80]
  refine iX (b:=cu) (en:=[some (cv a b (c+1)),some (.int m),none,some (.int y)]) (cb (en1:=[some (cv a b c),some (.int m),none,none]) (k8 (b:=decide ((0:Int) < a)) rfl (decide_eq_false ha) rfl)
   (cb (en1:=[some (cv a b (c+1)),some (.int m),none,none]) rfl
   (cb (en1:=[some (cv a b (c+1)),some (.int m),none,some (.int x)]) (iY (bw (t2:=.int 2147483647) (bw (bw (bw (t1:=.int b) (t2:=.int 48271) rfl rfl c1) (bw (t1:=.int (c+1)) (t2:=.int 39373) rfl rfl c2) rfl) rfl rfl) rfl (by rw [← g1]; rfl)) rfl)
   (cb (en1:=[some (cv a b (c+1)),some (.int m),none,some (.int y)]) (iY (bw (t2:=.int 2147483629) (bw (t1:=.int x) (t2:=.int (x % 65521+(c+1))) rfl (bw (t1:=.int (x % 65521)) (t2:=.int (c+1)) rfl rfl rfl) c3) rfl (by rw [← g2]; rfl)) rfl)
   (m9 (bw (t2:=.int m) (bw (t1:=.int y) (t2:=.int 64) rfl rfl c8) rfl (md _)))))))
theorem pen_ok {ns:List Int} {k:Int} (h0:0≤k):∃ p,F_law_pen [.list (ns.map .int),.int k]=some (p,[none,none])∧IsPen p:=by
 have len:bp [.list (ns.map .int)]=some (.int ns.length):=by show some (PyData.int (ns.map PyData.int).length)=_; rw [List.length_map]
 have ln:∀ (y:Option D),(eN bp (ad (ae 0) ah)) [some (.list (ns.map .int)),some (.int k),y]=some (.int ns.length,[some (.list (ns.map .int)),some (.int k),y]):=fun y=>na rfl rfl len
 have mk0:CMul 70001 k:=.inl (by decide)
 have mk:cI (.int 70001) (.int k)=some (.int (70001 * k)):=by
  show (if CMul 70001 k then some (PyData.int (70001 * k)) else none)=_
  rw [if_pos mk0]
 have pw:kw (.int 10) (.int 18)=some (.int 1000000000000000000):=by
  show (if gA 10 18 then some (PyData.int (10 ^ Int.toNat 18)) else none)=_
  rw [if_pos (by unfold gA; decide)]; rfl
 obtain ⟨c,st⟩:∃ c:Int,(sIf (tV (e2 gtI (eN bp (ad (ae 0) ah)) (eC (.int 0)))) (aC 2 (e2 ixA (ae 0) (e2 bL (ae 1) (eN bp (ad (ae 0) ah))))) bQ) [some (.list (ns.map .int)),some (.int k),some (.int 0)]=some (.nx [some (.list (ns.map .int)),some (.int k),some (.int c)]):=by
  by_cases hn:(0:Int) < ns.length
  ·obtain ⟨j,ej⟩:∃ j:Nat,ixN ns.length (k % ns.length)=some j∧j < ns.length:=by
    have q1:0≤k % (ns.length:Int):=Int.emod_nonneg _ (by omega)
    have q2:k % (ns.length:Int) < ns.length:=Int.emod_lt_of_pos _ (by omega)
    exact ⟨(k % (ns.length:Int)).toNat,by unfold ixN; rw [if_pos q1,if_pos q2],by omega⟩
   obtain ⟨c,ec⟩:∃ c,ns[j]?=some c:=⟨_,List.getElem?_eq_getElem ej.2⟩
   have at1:ixA (.list (ns.map .int)) (.int (k % ns.length))=some (.int c):=by
    show atI _ _=_
    unfold atI
    rw [List.length_map,ej.1]
    show (ns.map PyData.int)[j]?=_
    rw [List.getElem?_map,ec]
    rfl
   have ml:bL (.int k) (.int ns.length)=some (.int (k % ns.length)):=if_pos hn
   exact ⟨c,k7 (fO (bw (ln _) rfl rfl)) (decide_eq_true hn) (iY (bw rfl (bw rfl (ln _) ml) at1) rfl)⟩
  ·exact ⟨0,k8 (fO (bw (ln _) rfl rfl)) (decide_eq_false hn) rfl⟩
 obtain ⟨b,ab⟩:∃ b,il [.int c]=some (.int b):=⟨if c < 0 then -c else c,rfl⟩
 have l3:∀ x y z:D,[x,y,z].length≤sizeLine:=fun x y z=>Nat.le_trans (by show 3≤1000; decide) sl1000
 have fin:(aR (aZ (ad (eC (.int 0)) (ad (e2 bi (e2 bL (ae 2) (eC (.int 999999937))) (e2 cI (eC (.int 70001)) (ae 1))) (ad (eC (.int 0)) ah))))) [some (.list (ns.map .int)),some (.int k),some (.int c)]=some (.rt (cv 0 (c % 999999937+70001 * k) 0) [some (.list (ns.map .int)),some (.int k),some (.int c)]) :=
  m9 (oN (nb rfl (nb (bw (t1:=.int (c % 999999937)) (t2:=.int (70001 * k)) rfl (bw rfl rfl mk) rfl) rfl)) rfl (l3 _ _ _))
 by_cases h1:(k < (ns.length:Int))∧(1000000000000000000≤b)
 ·refine ⟨cv b 0 0,iX (b:=bO) (en:=[some (.list (ns.map .int)),some (.int k),some (.int c)]) (cb (en1:=[some (.list (ns.map .int)),some (.int k),some (.int 0)]) rfl (cb st (oM (k7 (b:=true) (mf (b:=decide (k < (ns.length:Int))) (fO (bw rfl (ln _) rfl)) (decide_eq_true h1.1) (fO (bw (na rfl rfl ab) (bw rfl rfl pw) (congrArg (fun q=>some (PyData.bool q)) (decide_eq_true h1.2))))) rfl (m9 (oN (nb (na rfl rfl ab) rfl) rfl (l3 _ _ _))))))),_,_,_,rfl⟩
 ·refine ⟨_,iX (b:=bO) (en:=[some (.list (ns.map .int)),some (.int k),some (.int c)]) (cb (en1:=[some (.list (ns.map .int)),some (.int k),some (.int 0)]) rfl (cb st (cb (en1:=[some (.list (ns.map .int)),some (.int k),some (.int c)]) (k8 (b:=false) ?_ rfl rfl) fin))),_,_,_,rfl⟩
  by_cases h2:k < (ns.length:Int)
  ·exact mf (b:=decide (k < (ns.length:Int))) (fO (bw rfl (ln _) rfl)) (decide_eq_true h2) (fO (bw (na rfl rfl ab) (bw rfl rfl pw) (congrArg (fun q=>some (PyData.bool q)) (decide_eq_false fun z=>h1 ⟨h2,z⟩))))
  ·exact xR (b:=decide (k < (ns.length:Int))) (fO (bw rfl (ln _) rfl)) (decide_eq_false h2)
end Pen3
end L2
namespace L2
open PySem PySem.Spec PyProof.Rows
structure W {α:Type} (x:Option α) (Q:α→Prop):Prop where
 ex:∃ a,x=some a∧Q a
theorem av {α:Type} (a:α) (Q:α→Prop):W (some a) Q=Q a:=propext ⟨fun ⟨b,e,h⟩=>(Option.some.inj e) ▸ h,fun h=>⟨a,rfl,h⟩⟩
theorem aW {α:Type} (Q:α→Prop):W (none:Option α) Q=False:=propext ⟨(fun ⟨b,e,h⟩=>by cases e),(fun h=>h.elim)⟩
theorem W.use {α:Type} {x:Option α} {P Q:α→Prop} (h:W x P) (k:∀ a,P a→Q a):W x Q :=
 let ⟨a,e,h⟩:=h.ex
 ⟨a,e,k a h⟩
theorem W.of {α:Type} {x:Option α} {P:α→Prop} {a:α} (e:x=some a) (h:P a):W x P:=⟨a,e,h⟩
theorem ar {α β:Type} (x:Option α) (f:α→Option β) (Q:β→Prop):W (x.bind f) Q=W x (fun a=>W (f a) Q):=by
 cases x with
 | none=>show W none _=_; rw [aW,aW]
 | some a=>show W (f a) Q=_; rw [av]
theorem ba {α β:Type} (x:Option α) (f:α→β) (Q:β→Prop):W (x.map f) Q=W x (fun a=>Q (f a)):=by
 cases x with
 | none=>show W none _=_; rw [aW,aW]
 | some a=>show W (some (f a)) Q=_; rw [av,av]
theorem fR {α:Type} (c:Prop) [Decidable c] (a:α) (Q:α→Prop):W (grd c a) Q=(c∧Q a):=by
 unfold grd
 by_cases h:c
 ·rw [if_pos h,av]; exact propext ⟨fun z=>⟨h,z⟩,fun z=>z.2⟩
 ·rw [if_neg h,aW]; exact propext ⟨fun z=>z.elim,fun z=>h z.1⟩
theorem dX {α:Type} (c:Prop) [Decidable c] (a:α) (Q:α→Prop):W (if c then some a else none) Q=(c∧Q a):=fR c a Q
theorem ni {α:Type} (c:Prop) [Decidable c] (x:Option α) (Q:α→Prop):W (if c then x else none) Q=(c∧W x Q):=by
 by_cases h:c
 ·rw [if_pos h]; exact propext ⟨fun z=>⟨h,z⟩,fun z=>z.2⟩
 ·rw [if_neg h,aW]; exact propext ⟨fun z=>z.elim,fun z=>h z.1⟩
def gv (en:En) (i:Nat):Option D:=(en[i]?).join
def eJ (ts:List D) (n:Int) (t:D):Option (List D):=(ixN ts.length n).map fun k=>ts.set k t
def my (ts:List D) (n:Int):Option (D × List D):=(seqIndex? n ts.length).bind fun k=>(ts[k]?).map fun t=>(t,ts.eraseIdx k)
def ku (i:Int) (n:Nat):List D:=(List.range n).map fun k=>.int (i+(k:Nat))
section
variable {α β:Type}
def mO (b:MS) (Q:Fl→Prop):Fl→Prop:=fun fl=>W (match fl with | .nx en1=>b en1 | .rt t en1=>some (.rt t en1) | .ct en1=>some (.ct en1)) Q
def A7 (i:Nat) (Q:Fl→Prop):D × En→Prop:=fun r=>Q (.nx (r.2.set i (some r.1)))
def Bd (Q:Fl→Prop):D × En→Prop:=fun r=>Q (.nx r.2)
def A8 (Q:Fl→Prop):D × En→Prop:=fun r=>Q (.rt r.1 r.2)
def kIf (f g:En→Option β) (Q:β→Prop):Bool × En→Prop:=fun r=>W (if r.1 then f r.2 else g r.2) Q
def Bc (g:MG) (b:MS) (Q:Fl→Prop):List D × En→Prop:=fun r=>W (bY g b r.1 r.2) Q
def iM (g:MG) (b:MS) (ts:List D) (Q:Fl→Prop):Fl→Prop:=fun fl=>W (match fl with | .nx en2=>bY g b ts en2 | .ct en2=>bY g b ts en2 | .rt r en2=>some (.rt r en2)) Q
def wq (g:MG) (b:MS) (ts:List D) (Q:Fl→Prop):En→Prop:=fun en=>W (b en) (iM g b ts Q)
def pM (i:Nat) (en:En) (Q:Fl→Prop):List D→Prop:=fun ts=>Q (.nx (en.set i (some (.list ts))))
def iL (i:Nat) (t:D) (Q:Fl→Prop):D × En→Prop:=fun q=>W (match q.1,(q.2[i]?).join with | .int n,some (.list ts)=>(ixN ts.length n).map fun k=>.nx (q.2.set i (some (.list (ts.set k t)))) | _,_=>none) Q
def mN (i:Nat) (fk:ME) (Q:Fl→Prop):D × En→Prop:=fun r=>W (match (r.2[i]?).join with | some _=>((fk r.2).bind fun q=>(match q.1,(q.2[i]?).join with | .int n,some (.list ts)=>(ixN ts.length n).map fun k=>.nx (q.2.set i (some (.list (ts.set k r.1)))) | _,_=>none)) | none=>none) Q
def n6 (i:Nat) (t:D) (fk:ME) (en:En) (Q:Fl→Prop):D→Prop:=fun _x=>W (fk en) (iL i t Q)
def kJ (i:Nat) (t:D) (n:Int) (en:En) (Q:Fl→Prop):D→Prop:=fun x=>W (match x with | .list ts=>(ixN ts.length n).map fun k=>.nx (en.set i (some (.list (ts.set k t)))) | _=>none) Q
def db (en:En) (Q:D × En→Prop):D→Prop:=fun t=>Q (t,en)
def k1 (g:D→Option D) (Q:D × En→Prop):D × En→Prop:=fun r=>W (g r.1) (db r.2 Q)
def k2b (g:D→D→Option D) (t:D) (Q:D × En→Prop):D × En→Prop:=fun q=>W (g t q.1) (db q.2 Q)
def k2 (g:D→D→Option D) (f:ME) (Q:D × En→Prop):D × En→Prop:=fun r=>W (f r.2) (k2b g r.1 Q)
def pQ (g:ME) (Q:D × En→Prop):D × En→Prop:=fun r=>W (match r.1 with | .bool true=>g r.2 | .bool false=>some (.bool false,r.2) | _=>none) Q
def kTV (Q:Bool × En→Prop):D × En→Prop:=fun r=>W (match r.1 with | .bool b=>some (b,r.2) | _=>none) Q
def mV (g:MT) (Q:Bool × En→Prop):Bool × En→Prop:=fun r=>W (if r.1 then g r.2 else some (false,r.2)) Q
def pP (g:MT) (Q:Bool × En→Prop):Bool × En→Prop:=fun r=>W (if r.1 then some (true,r.2) else g r.2) Q
def wu (Q:Bool × En→Prop):Bool × En→Prop:=fun r=>Q (!r.1,r.2)
def pS (t:D) (Q:List (D ⊕ Nat) × En→Prop):List (D ⊕ Nat) × En→Prop:=fun y=>Q (.inl t :: y.1,y.2)
def kAC (r:MA) (Q:List (D ⊕ Nat) × En→Prop):D × En→Prop:=fun x=>W (r x.2) (pS x.1 Q)
def pR (i:Nat) (Q:List (D ⊕ Nat) × En→Prop):List (D ⊕ Nat) × En→Prop:=fun y=>Q (.inr i :: y.1,y.2)
def kAS (i:Nat) (r:MA) (en:En) (Q:List (D ⊕ Nat) × En→Prop):D→Prop:=fun _x=>W (r en) (pR i Q)
def kN2 (g:List D→Option D) (en:En) (Q:D × En→Prop):List D→Prop:=fun ts=>W (g ts) (db en Q)
def kN (g:List D→Option D) (Q:D × En→Prop):List (D ⊕ Nat) × En→Prop:=fun r=>W (be r.1) (kN2 g r.2 Q)
def mR (en:En) (Q:D × En→Prop):List D→Prop:=fun ts=>W (if ts.length≤sizeLine then some (.list ts,en) else none) Q
def Ba (Q:D × En→Prop):List (D ⊕ Nat) × En→Prop:=fun r=>W (be r.1) (mR r.2 Q)
def mM (en:En) (Q:D × En→Prop):List D→Prop:=fun ts=>W (if ts.length≤sizeLine then some (.tuple ts,en) else none) Q
def A6 (Q:D × En→Prop):List (D ⊕ Nat) × En→Prop:=fun r=>W (be r.1) (mM r.2 Q)
def kL (as:List (D ⊕ Nat)) (en:En) (Q:D × En→Prop):D × En→Prop:=fun q=>Q (q.1,wb as q.2 en)
def kO (F:List D→Option (D × En)) (as:List (D ⊕ Nat)) (en:En) (Q:D × En→Prop):List D→Prop:=fun ts=>W (F ts) (kL as en Q)
def wt (F:List D→Option (D × En)) (Q:D × En→Prop):List (D ⊕ Nat) × En→Prop:=fun r=>W (cV r.1 r.2) (kO F r.1 r.2 Q)
def kFn (dps:List Nat) (Q:D × En→Prop):Fl→Prop:=fun fl=>W (match fl with | .rt t en=>some (t,msk dps en) | .nx en=>some (.none,msk dps en) | .ct _=>none) Q
def mT (q:Bool) (js:List (Option Nat)) (en:En) (Q:D × En→Prop):List D × En→Prop:=fun z=>Q (.list z.1,if q then en else wbB js z.2 en)
def kLC (q:Bool) (g:MG) (c:MT) (f:ME) (js:List (Option Nat)) (Q:D × En→Prop):List D × En→Prop:=fun r=>W (lcF g c f r.1 [] (b5 js r.2)) (mT q js r.2 Q)
def kL3 (g:MG) (c:MT) (f:ME) (ts acc:List D) (Q:List D × En→Prop):D × En→Prop:=fun q=>W (if acc.length < sizeLine then lcF g c f ts (acc++[q.1]) q.2 else none) Q
def kL2 (g:MG) (c:MT) (f:ME) (ts acc:List D) (Q:List D × En→Prop):Bool × En→Prop:=fun r=>W (if r.1 then (f r.2).bind fun q=>if acc.length < sizeLine then lcF g c f ts (acc++[q.1]) q.2 else none else lcF g c f ts acc r.2) Q
def kL1 (g:MG) (c:MT) (f:ME) (ts acc:List D) (Q:List D × En→Prop):En→Prop:=fun en=>W (c en) (kL2 g c f ts acc Q)
def mX (Q:List D × En→Prop):D × En→Prop:=fun r=>W ((v8 r.1).map fun ts=>(ts,r.2)) Q
def kR1 (Q:List D × En→Prop):List (D ⊕ Nat) × En→Prop:=fun r=>W (match r.1 with | [.inl (.int j)]=>if -(2 ^ 62)≤j∧j < 2 ^ 62 then some ((List.range j.toNat).map fun k=>.int (0+(k:Nat)),r.2) else none | _=>none) Q
def nT (n:Int) (en:En) (Q:D × En→Prop):D→Prop:=fun x=>W (match x with | .list ts=>(atI ts n).map fun t=>(t,en) | _=>none) Q
def iI (i:Nat) (Q:D × En→Prop):D × En→Prop:=fun r=>W (match r.1,(r.2[i]?).join with | .int n,some (.list ts)=>(atI ts n).map fun t=>(t,r.2) | _,_=>none) Q
def wo (i:Nat) (f:ME) (en:En) (Q:D × En→Prop):D→Prop:=fun _x=>W (f en) (iI i Q)
def mW (i:Nat) (Q:D × En→Prop):D × En→Prop:=fun r=>W (match (r.2[i]?).join with | some (.list ts)=>if ts.length < sizeLine then some (PyData.none,r.2.set i (some (.list (ts++[r.1])))) else none | _=>none) Q
def wv (i:Nat) (t:D) (en:En) (Q:D × En→Prop):D→Prop:=fun x=>W (match x with | .list ts=>if ts.length < sizeLine then some (PyData.none,en.set i (some (.list (ts++[t])))) else none | _=>none) Q
def Bf (i:Nat) (f:ME) (en:En) (Q:D × En→Prop):D→Prop:=fun x=>W (match x with | .list _=>((f en).bind fun r=>(match (r.2[i]?).join with | some (.list ts)=>if ts.length < sizeLine then some (PyData.none,r.2.set i (some (.list (ts++[r.1])))) else none | _=>none)) | _=>none) Q
def mU (g:D→D→Option D) (t:D) (f:ME) (en:En) (Q:D × En→Prop):D→Prop:=fun x=>W (match x with | .bool true=>(f en).bind fun z=>(g t z.1).map fun t=>(t,z.2) | .bool false=>some (.bool false,en) | _=>none) Q
def pO (g g2:D→D→Option D) (f3:ME) (t:D) (Q:D × En→Prop):D × En→Prop:=fun q=>W (g t q.1) (mU g2 q.1 f3 q.2 Q)
def kCh (g g2:D→D→Option D) (f2 f3:ME) (Q:D × En→Prop):D × En→Prop:=fun r=>W (f2 r.2) (pO g g2 f3 r.1 Q)
def kOS (Q:Option Int × En→Prop):D × En→Prop:=fun r=>W (match r.1 with | .int i=>some (some i,r.2) | _=>none) Q
def pK (g:D→Option Int→Option Int→Option D) (t:D) (lo:Option Int) (Q:D × En→Prop):Option Int × En→Prop:=fun h=>W (g t lo h.1) (db h.2 Q)
def pL (g:D→Option Int→Option Int→Option D) (t:D) (hi:MO) (Q:D × En→Prop):Option Int × En→Prop:=fun l=>W (hi l.2) (pK g t l.1 Q)
def kSl (g:D→Option Int→Option Int→Option D) (lo hi:MO) (Q:D × En→Prop):D × En→Prop:=fun r=>W (lo r.2) (pL g r.1 hi Q)
def kM2 (g:Str→List D→Option D) (z:Str) (en:En) (Q:D × En→Prop):List D→Prop:=fun ts=>W (g z ts) (db en Q)
def kM1 (g:Str→List D→Option D) (z:Str) (Q:D × En→Prop):List (D ⊕ Nat) × En→Prop:=fun q=>W (be q.1) (kM2 g z q.2 Q)
def kM (g:Str→List D→Option D) (fa:MA) (Q:D × En→Prop):D × En→Prop:=fun r=>W (match r.1 with | .str z=>(fa r.2).bind fun q=>(be q.1).bind fun ts=>(g z ts).map fun t=>(t,q.2) | _=>none) Q
def kIt (J:En→Prop) (Q:Fl→Prop):Fl→Prop:=fun fl=>match fl with | .nx e=>J e | .ct e=>J e | .rt t e=>Q (.rt t e)
def pN (us:List D) (J:List D→En→Prop):D × En→Prop:=fun r=>J (us++[r.1]) r.2
def mS (f:ME) (us:List D) (J:List D→En→Prop):Bool × En→Prop:=fun r=>if r.1 then W (f r.2) (pN us J) else J us r.2
def Bb (c:MT) (f:ME) (us:List D) (J:List D→En→Prop):En→Prop:=fun en=>W (c en) (mS f us J)
def kWh (b:MS) (J:En→Prop) (Q:Fl→Prop):Bool × En→Prop:=fun r=>if r.1 then W (b r.2) (kIt J Q) else Q (.nx r.2)
def kFg (b:MS) (J:En→Prop) (Q:Fl→Prop):En→Prop:=fun en=>W (b en) (kIt J Q)
def wp (i:Nat) (en:En) (Q:D × En→Prop):D × List D→Prop:=fun r=>Q (r.1,en.set i (some (.list r.2)))
def mP (i:Nat) (n:Int) (en:En) (Q:D × En→Prop):D→Prop:=fun x=>W (match x with | .list ts=>(if -(2 ^ 63)≤n∧n < 2 ^ 63 then (seqIndex? n ts.length).bind fun k=>(ts[k]?).map fun t=>(t,en.set i (some (.list (ts.eraseIdx k)))) else none) | _=>none) Q
def mQ (i:Nat) (Q:D × En→Prop):D × En→Prop:=fun r=>W (match r.1,(r.2[i]?).join with | .int n,some (.list ts)=>(if -(2 ^ 63)≤n∧n < 2 ^ 63 then (seqIndex? n ts.length).bind fun k=>(ts[k]?).map fun t=>(t,r.2.set i (some (.list (ts.eraseIdx k)))) else none) | _,_=>none) Q
def A9 (i:Nat) (f:ME) (en:En) (Q:D × En→Prop):D→Prop:=fun x=>W (match x with | .list _=>(f en).bind (fun r=>match r.1,(r.2[i]?).join with | .int n,some (.list ts)=>(if -(2 ^ 63)≤n∧n < 2 ^ 63 then (seqIndex? n ts.length).bind fun k=>(ts[k]?).map fun t=>(t,r.2.set i (some (.list (ts.eraseIdx k)))) else none) | _,_=>none) | _=>none) Q
def kS1 (Q:D→Prop):Nat→Prop:=fun c=>Q (.str (mk1 c))
def iO (t:D) (Q:List D→Prop):List D→Prop:=fun ts=>Q (t :: ts)
def Be (r:List (D ⊕ Nat)) (en:En) (Q:List D→Prop):D→Prop:=fun t=>W (cV r en) (iO t Q)
theorem aS {α:Type} (ts:List α) (n:Nat):atI ts (n:Int)=ts[n]?:=by
 unfold atI ixN
 rw [if_pos (by omega)]
 by_cases h:n < ts.length
 ·rw [if_pos (by omega)]; rfl
 ·rw [if_neg (by omega),List.getElem?_eq_none (by omega)]; rfl
theorem c9 {ts:List D} {t:D} (n:Nat) (h:n < ts.length):eJ ts (n:Int) t=some (ts.set n t):=by
 unfold eJ ixN
 rw [if_pos (by omega),if_pos (by omega)]
 rfl
theorem xV (x:D) (l:List D):bD (x :: l) (some 1) none=l:=by
 unfold bD
 rw [HT.sIx_none,show (some (1:Int))=some ((1:Nat):Int) from rfl,HT.sIx_nat,Nat.min_eq_left (by simp),List.drop_one]
 exact List.take_of_length_le (by simp)
theorem CV (x:D) (l:List D):(HT.sIx (x :: l).length 0 (some 1)=0)=False:=by
 rw [show (some (1:Int))=some ((1:Nat):Int) from rfl,HT.sIx_nat,Nat.min_eq_left (by simp)]
 exact eq_false (by decide)
theorem l5 (a b:Int):(a == b)=decide (a=b):=by
 by_cases h:a=b
 ·rw [h,decide_eq_true rfl]; exact beq_self_eq_true b
 ·rw [decide_eq_false h]; exact beq_eq_false_iff_ne.mpr h
theorem xS (a b:Bool):eqD (.bool a) (.bool b)=some (.bool (a == b)):=by
 show grd _ _=_
 unfold grd
 rw [if_pos ⟨rfl,rfl,Nat.zero_le _⟩]
 simp only [peq]
theorem wZ (a b:Bool):neD (.bool a) (.bool b)=some (.bool (!(a == b))):=by
 show grd _ _=_
 unfold grd
 rw [if_pos ⟨rfl,rfl,Nat.zero_le _⟩]
 simp only [peq]
theorem lL (a b:Str):(a == b)=decide (a=b):=by
 by_cases h:a=b
 ·rw [h,decide_eq_true rfl]; exact beq_self_eq_true b
 ·rw [decide_eq_false h]; exact beq_eq_false_iff_ne.mpr h
theorem BS (a b:Str):eqD (.str a) (.str b)=some (.bool (decide (a=b))):=by
 show grd _ _=_
 unfold grd
 rw [if_pos ⟨rfl,rfl,Nat.zero_le _⟩,← lL]
 simp only [peq]
theorem AV (a b:Str):neD (.str a) (.str b)=some (.bool (!decide (a=b))):=by
 show grd _ _=_
 unfold grd
 rw [if_pos ⟨rfl,rfl,Nat.zero_le _⟩,← lL]
 simp only [peq]
theorem BT:eqD (.list []) (.list [])=some (.bool true):=by
 show grd _ _=_
 unfold grd
 rw [if_pos ⟨rfl,rfl,by decide⟩]
 rfl
theorem AW:neD (.list []) (.list [])=some (.bool false):=by
 show grd _ _=_
 unfold grd
 rw [if_pos ⟨rfl,rfl,by decide⟩]
 rfl
variable (en:En) (Qs:Fl→Prop) (Qe:D × En→Prop) (Qb:Bool × En→Prop) (Qa:List (D ⊕ Nat) × En→Prop) (Ql:List D × En→Prop) (Qd:D→Prop) (Qt:List D→Prop) (Qn:En→Prop) (f:ME) (g:MG) (fa:MA) (c:MT) (ts:List D) (i:Nat)
theorem ws0 (α:Type) (a:α) (Q:α→Prop):W (some a) Q=Q a:=av _ _
theorem ws1 (α:Type) (Q:α→Prop):W (none:Option α) Q=False:=aW _
theorem ws2 (α:Type) (c:Prop) (_:Decidable c) (a:α) (Q:α→Prop):W (grd c a) Q=(c∧Q a):=fR c a Q
theorem ws3 (a:Option D) (l:En):gv (a :: l) 0=a:=rfl
theorem ws4 (a:Option D) (l:En):gv (a :: l) (i+1)=gv l i:=rfl
theorem ws5 (a b:Option D) (l:En):List.set (a :: l) 0 b=b :: l:=rfl
theorem ws6 (a b:Option D) (l:En):List.set (a :: l) (i+1) b=a :: List.set l i b:=rfl
theorem ws7 (a b:MS):W (au a b en) Qs=W (a en) (mO b Qs):=ar _ _ _
theorem ws8 (b:MS):mO b Qs (.nx en)=W (b en) Qs:=rfl
theorem ws9 (b:MS) (t:D):mO b Qs (.rt t en)=Qs (.rt t en):=av _ _
theorem Ae (b:MS):mO b Qs (.ct en)=Qs (.ct en):=av _ _
theorem Ad:W (aC i f en) Qs=W (f en) (A7 i Qs):=ba _ _ _
theorem Ac (t:D):A7 i Qs (t,en)=Qs (.nx (en.set i (some t))):=rfl
theorem Ab:W (jl f en) Qs=W (f en) (Bd Qs):=ba _ _ _
theorem Aa (t:D):Bd Qs (t,en)=Qs (.nx en):=rfl
theorem zZ:W (aR f en) Qs=W (f en) (A8 Qs):=ba _ _ _
theorem zY (t:D):A8 Qs (t,en)=Qs (.rt t en):=rfl
theorem zX:W (bQ en) Qs=Qs (.nx en):=av _ _
theorem zW (a b:MS):W (sIf c a b en) Qs=W (c en) (kIf a b Qs):=ar _ _ _
theorem zV (β:Type) (a b:En→Option β) (Q:β→Prop):kIf a b Q (true,en)=W (a en) Q:=rfl
theorem zU (β:Type) (a b:En→Option β) (Q:β→Prop):kIf a b Q (false,en)=W (b en) Q:=rfl
theorem zT (fi:MI) (b:MS):W (dw fi g b en) Qs=W (fi en) (Bc g b Qs):=ar _ _ _
theorem zS (b:MS):Bc g b Qs (ts,en)=W (bY g b ts en) Qs:=rfl
theorem zR (b:MS):W (bY g b [] en) Qs=Qs (.nx en):=av _ _
theorem zQ (b:MS) (t:D):W (bY g b (t :: ts) en) Qs=W (g t en) (wq g b ts Qs):=(ar _ _ _).trans (congrArg _ (funext fun z=>ar _ _ _))
theorem zP (b:MS):wq g b ts Qs en=W (b en) (iM g b ts Qs):=rfl
theorem zO (b:MS):iM g b ts Qs (.nx en)=W (bY g b ts en) Qs:=rfl
theorem zN (b:MS):iM g b ts Qs (.ct en)=W (bY g b ts en) Qs:=rfl
theorem zM (b:MS) (t:D):iM g b ts Qs (.rt t en)=Qs (.rt t en):=av _ _
theorem zL (t:D):W (gN i t en) Qn=Qn (en.set i (some t)):=av _ _
theorem zK (fk fe:ME):W (dg i fk fe en) Qs=W (fe en) (mN i fk Qs):=ar _ _ _
theorem zJ (fk:ME) (t:D):mN i fk Qs (t,en)=W (gv en i) (n6 i t fk en Qs):=by unfold mN gv; cases h:(en[i]?).join with | none=>simp only [h,aW] | some x=>simp only [h,av]; exact ar _ _ _
theorem zI (t:D) (fk:ME) (x:D):n6 i t fk en Qs x=W (fk en) (iL i t Qs):=rfl
theorem zH (t:D) (n:Int):iL i t Qs (.int n,en)=W (gv en i) (kJ i t n en Qs):=by unfold iL gv; cases h:(en[i]?).join with | none=>simp only [h,aW] | some x=>simp only [h,av]; cases x <;> first | rfl | exact (av _ _).symm | (rw [av]; rfl) | (rw [av]; exact aW _)
theorem zG (t:D) (n:Int):kJ i t n en Qs (.list ts)=W (eJ ts n t) (pM i en Qs):=by unfold kJ eJ pM; dsimp only; rw [ba,ba]
theorem zF:pM i en Qs ts=Qs (.nx (en.set i (some (.list ts)))):=rfl
theorem zE (x0 t:D) (l:List D):eJ (x0 :: l) 0 t=some (t :: l):=c9 0 (by simp only [List.length_cons]; omega)
theorem zC (x0 x1 t:D) (l:List D):eJ (x0 :: x1 :: l) 1 t=some (x0 :: t :: l):=c9 1 (by simp only [List.length_cons]; omega)
theorem zB (x0 x1 x2 t:D) (l:List D):eJ (x0 :: x1 :: x2 :: l) 2 t=some (x0 :: x1 :: t :: l):=c9 2 (by simp only [List.length_cons]; omega)
theorem zA (x0 x1 x2 x3 t:D) (l:List D):eJ (x0 :: x1 :: x2 :: x3 :: l) 3 t=some (x0 :: x1 :: x2 :: t :: l):=c9 3 (by simp only [List.length_cons]; omega)
theorem zz (x0 x1 x2 x3 x4 t:D) (l:List D):eJ (x0 :: x1 :: x2 :: x3 :: x4 :: l) 4 t=some (x0 :: x1 :: x2 :: x3 :: t :: l):=c9 4 (by simp only [List.length_cons]; omega)
theorem zy (x0 x1 x2 x3 x4 x5 t:D) (l:List D):eJ (x0 :: x1 :: x2 :: x3 :: x4 :: x5 :: l) 5 t=some (x0 :: x1 :: x2 :: x3 :: x4 :: t :: l):=c9 5 (by simp only [List.length_cons]; omega)
theorem zx:W (ae i en) Qe=W (gv en i) (db en Qe):=ba _ _ _
theorem zw (t:D):db en Qe t=Qe (t,en):=rfl
theorem zv (t:D):W (eC t en) Qe=Qe (t,en):=av _ _
theorem zu (g:D→Option D):W (e1 g f en) Qe=W (f en) (k1 g Qe):=(ar _ _ _).trans (congrArg _ (funext fun z=>ba _ _ _))
theorem zt (g:D→Option D) (t:D):k1 g Qe (t,en)=W (g t) (db en Qe):=rfl
theorem zr (g:D→D→Option D) (f1 f2:ME):W (e2 g f1 f2 en) Qe=W (f1 en) (k2 g f2 Qe):=(ar _ _ _).trans (congrArg _ (funext fun z=>(ar _ _ _).trans (congrArg _ (funext fun y=>ba _ _ _))))
theorem zq (g:D→D→Option D) (f2:ME) (t:D):k2 g f2 Qe (t,en)=W (f2 en) (k2b g t Qe):=rfl
theorem zp (g:D→D→Option D) (t u:D):k2b g t Qe (u,en)=W (g t u) (db en Qe):=rfl
theorem zo (f g:ME):W (ie f g en) Qe=W (f en) (pQ g Qe):=ar _ _ _
theorem zn (g:ME):pQ g Qe (.bool true,en)=W (g en) Qe:=rfl
theorem zm (g:ME):pQ g Qe (.bool false,en)=Qe (.bool false,en):=av _ _
theorem zh:W (tV f en) Qb=W (f en) (kTV Qb):=ar _ _ _
theorem zg (x:Bool):kTV Qb (.bool x,en)=Qb (x,en):=av _ _
theorem ze (f g:MT):W (dW f g en) Qb=W (f en) (mV g Qb):=ar _ _ _
theorem zd (g:MT):mV g Qb (true,en)=W (g en) Qb:=rfl
theorem zc (g:MT):mV g Qb (false,en)=Qb (false,en):=av _ _
theorem zb (f g:MT):W (bOr f g en) Qb=W (f en) (pP g Qb):=ar _ _ _
theorem y9 (g:MT):pP g Qb (true,en)=Qb (true,en):=av _ _
theorem y8 (g:MT):pP g Qb (false,en)=W (g en) Qb:=rfl
theorem yZ (f:MT):W (cU f en) Qb=W (f en) (wu Qb):=ba _ _ _
theorem yY (x:Bool):wu Qb (x,en)=Qb (!x,en):=rfl
theorem yX:W (cY en) Qb=Qb (true,en):=av _ _
theorem yW:W (ah en) Qa=Qa ([],en):=av _ _
theorem yV (r:MA):W (ad f r en) Qa=W (f en) (kAC r Qa):=(ar _ _ _).trans (congrArg _ (funext fun z=>ba _ _ _))
theorem yU (r:MA) (t:D):kAC r Qa (t,en)=W (r en) (pS t Qa):=rfl
theorem yT (t:D) (as:List (D ⊕ Nat)):pS t Qa (as,en)=Qa (.inl t :: as,en):=rfl
theorem yS (r:MA):W (bx i r en) Qa=W (gv en i) (kAS i r en Qa):=(ar _ _ _).trans (congrArg _ (funext fun z=>ba _ _ _))
theorem yR (r:MA) (t:D):kAS i r en Qa t=W (r en) (pR i Qa):=rfl
theorem yQ (as:List (D ⊕ Nat)):pR i Qa (as,en)=Qa (.inr i :: as,en):=rfl
theorem yP:be []=some []:=rfl
theorem yO (t:D) (r:List (D ⊕ Nat)):W (be (.inl t :: r)) Qt=W (be r) (iO t Qt):=ba _ _ _
theorem yN (t:D):iO t Qt ts=Qt (t :: ts):=rfl
theorem yM:cV [] en=some []:=rfl
theorem yL (t:D) (r:List (D ⊕ Nat)):W (cV (.inl t :: r) en) Qt=W (cV r en) (iO t Qt):=ba _ _ _
theorem yK (r:List (D ⊕ Nat)):W (cV (.inr i :: r) en) Qt=W (gv en i) (Be r en Qt):=(ar _ _ _).trans (congrArg _ (funext fun z=>ba _ _ _))
theorem yJ (t:D) (r:List (D ⊕ Nat)):Be r en Qt t=W (cV r en) (iO t Qt):=rfl
theorem yI (r:List (D ⊕ Nat)) (o:Option D) (outs:En):wb (.inr i :: r) (o :: outs) en=wb r outs (en.set i o):=rfl
theorem yH (t:D) (r:List (D ⊕ Nat)) (o:Option D) (outs:En):wb (.inl t :: r) (o :: outs) en=wb r outs en:=rfl
theorem yG (outs:En):wb [] outs en=en:=rfl
theorem yF (g:List D→Option D):W (eN g fa en) Qe=W (fa en) (kN g Qe):=(ar _ _ _).trans (congrArg _ (funext fun z=>(ar _ _ _).trans (congrArg _ (funext fun y=>ba _ _ _))))
theorem yE (g:List D→Option D) (as:List (D ⊕ Nat)):kN g Qe (as,en)=W (be as) (kN2 g en Qe):=rfl
theorem yD (g:List D→Option D):kN2 g en Qe ts=W (g ts) (db en Qe):=rfl
theorem yC:W (aZ fa en) Qe=W (fa en) (Ba Qe):=(ar _ _ _).trans (congrArg _ (funext fun z=>ar _ _ _))
theorem yB (as:List (D ⊕ Nat)):Ba Qe (as,en)=W (be as) (mR en Qe):=rfl
theorem yA:mR en Qe ts=(ts.length≤sizeLine∧Qe (.list ts,en)):=dX _ _ _
theorem yz:W (a5 fa en) Qe=W (fa en) (A6 Qe):=(ar _ _ _).trans (congrArg _ (funext fun z=>ar _ _ _))
theorem yy (as:List (D ⊕ Nat)):A6 Qe (as,en)=W (be as) (mM en Qe):=rfl
theorem yx:mM en Qe ts=(ts.length≤sizeLine∧Qe (.tuple ts,en)):=dX _ _ _
theorem yw:(([]:List D).length≤sizeLine)=True:=eq_true (Nat.le_trans (by show 0≤100; decide) aT)
theorem yv (x0:D):(([x0]:List D).length≤sizeLine)=True:=eq_true (Nat.le_trans (by show 1≤100; decide) aT)
theorem yu (x0 x1:D):(([x0,x1]:List D).length≤sizeLine)=True:=eq_true (Nat.le_trans (by show 2≤100; decide) aT)
theorem yt (x0 x1 x2:D):(([x0,x1,x2]:List D).length≤sizeLine)=True:=eq_true (Nat.le_trans (by show 3≤100; decide) aT)
theorem yr (x0 x1 x2 x3:D):(([x0,x1,x2,x3]:List D).length≤sizeLine)=True:=eq_true (Nat.le_trans (by show 4≤100; decide) aT)
theorem yq (x0 x1 x2 x3 x4:D):(([x0,x1,x2,x3,x4]:List D).length≤sizeLine)=True:=eq_true (Nat.le_trans (by show 5≤100; decide) aT)
theorem yp (x0 x1 x2 x3 x4 x5:D):(([x0,x1,x2,x3,x4,x5]:List D).length≤sizeLine)=True:=eq_true (Nat.le_trans (by show 6≤100; decide) aT)
theorem yo (x0 x1 x2 x3 x4 x5 x6:D):(([x0,x1,x2,x3,x4,x5,x6]:List D).length≤sizeLine)=True:=eq_true (Nat.le_trans (by show 7≤100; decide) aT)
theorem yn (x0 x1 x2 x3 x4 x5 x6 x7:D):(([x0,x1,x2,x3,x4,x5,x6,x7]:List D).length≤sizeLine)=True:=eq_true (Nat.le_trans (by show 8≤100; decide) aT)
theorem ym (x0 x1 x2 x3 x4 x5 x6 x7 x8:D):(([x0,x1,x2,x3,x4,x5,x6,x7,x8]:List D).length≤sizeLine)=True:=eq_true (Nat.le_trans (by show 9≤100; decide) aT)
theorem vV (x0 x1 x2 x3 x4 x5 x6 x7 x8 x9:D):(([x0,x1,x2,x3,x4,x5,x6,x7,x8,x9]:List D).length≤sizeLine)=True:=eq_true (Nat.le_trans (by show 10≤100; decide) aT)
theorem vU (x0 x1 x2 x3 x4 x5 x6 x7 x8 x9 x10:D):(([x0,x1,x2,x3,x4,x5,x6,x7,x8,x9,x10]:List D).length≤sizeLine)=True:=eq_true (Nat.le_trans (by show 11≤100; decide) aT)
theorem vT (x0 x1 x2 x3 x4 x5 x6 x7 x8 x9 x10 x11:D):(([x0,x1,x2,x3,x4,x5,x6,x7,x8,x9,x10,x11]:List D).length≤sizeLine)=True:=eq_true (Nat.le_trans (by show 12≤100; decide) aT)
theorem vS (x0 x1 x2 x3 x4 x5 x6 x7 x8 x9 x10 x11 x12:D):(([x0,x1,x2,x3,x4,x5,x6,x7,x8,x9,x10,x11,x12]:List D).length≤sizeLine)=True:=eq_true (Nat.le_trans (by show 13≤100; decide) aT)
theorem vR (F:List D→Option (D × En)):W (aO F fa en) Qe=W (fa en) (wt F Qe):=(ar _ _ _).trans (congrArg _ (funext fun z=>(ar _ _ _).trans (congrArg _ (funext fun y=>ba _ _ _))))
theorem vQ (F:List D→Option (D × En)) (as:List (D ⊕ Nat)):wt F Qe (as,en)=W (cV as en) (kO F as en Qe):=rfl
theorem vP (F:List D→Option (D × En)) (as:List (D ⊕ Nat)):kO F as en Qe ts=W (F ts) (kL as en Qe):=rfl
theorem vO (as:List (D ⊕ Nat)) (t:D) (outs:En):kL as en Qe (t,outs)=Qe (t,wb as outs en):=rfl
theorem vN (q:Bool) (fi:MI) (js:List (Option Nat)):W (eLC q fi g c f js en) Qe=W (fi en) (kLC q g c f js Qe):=(ar _ _ _).trans (congrArg _ (funext fun z=>ba _ _ _))
theorem vM (q:Bool) (js:List (Option Nat)):kLC q g c f js Qe (ts,en)=W (lcF g c f ts [] (b5 js en)) (mT q js en Qe):=rfl
theorem vL (js:List (Option Nat)) (us:List D) (ex:En):mT true js en Qe (us,ex)=Qe (.list us,en):=rfl
theorem vK (js:List (Option Nat)) (us:List D) (ex:En):mT false js en Qe (us,ex)=Qe (.list us,wbB js ex en):=rfl
theorem vJ:b5 [] en=[]:=rfl
theorem vI (j:Nat) (js:List (Option Nat)):b5 (some j :: js) en=gv en j :: b5 js en:=rfl
theorem vH (js:List (Option Nat)):b5 (none :: js) en=none :: b5 js en:=rfl
theorem vG (j:Nat) (js:List (Option Nat)) (o:Option D) (ex:En):wbB (some j :: js) (o :: ex) en=wbB js ex (en.set j o):=rfl
theorem vF (js:List (Option Nat)) (o:Option D) (ex:En):wbB (none :: js) (o :: ex) en=wbB js ex en:=rfl
theorem vE (ex:En):wbB [] ex en=en:=rfl
theorem vD:W (lcF g c f [] acc en) Ql=Ql (acc,en):=av _ _
theorem vC:W (cJ f en) Ql=W (f en) (mX Ql):=ar _ _ _
theorem vB:mX Ql (.list ts,en)=Ql (ts,en):=av _ _
theorem vA:mX Ql (.tuple ts,en)=Ql (ts,en):=av _ _
theorem vz (z:Str):mX Ql (.str z,en)=Ql (bP z,en):=av _ _
theorem vy:W (cT fa en) Ql=W (fa en) (kR1 Ql):=ar _ _ _
theorem vx (j:Int):kR1 Ql ([.inl (.int j)],en)=((-(2 ^ 62)≤j∧j < 2 ^ 62)∧Ql (ku 0 j.toNat,en)):=dX _ _ _
theorem vw:W (bM i f en) Qe=W (gv en i) (wo i f en Qe):=(ar _ _ _).trans (congrArg _ (funext fun z=>ar _ _ _))
theorem vv (x:D):wo i f en Qe x=W (f en) (iI i Qe):=rfl
theorem vt (n:Int):iI i Qe (.int n,en)=W (gv en i) (nT n en Qe):=by unfold iI gv; cases h:(en[i]?).join with | none=>simp only [h,aW] | some x=>simp only [h,av]; cases x <;> first | rfl | exact (av _ _).symm | (rw [av]; rfl) | (rw [av]; exact aW _)
theorem vr (n:Int):nT n en Qe (.list ts)=W (atI ts n) (db en Qe):=ba _ _ _
theorem vq:W (ic i f en) Qe=W (gv en i) (Bf i f en Qe):=by unfold gv ic; cases (en[i]?).join with | none=>rw [aW,aW] | some x=>cases x <;> first | rfl | exact (av _ _).symm | (rw [av]; rfl) | (rw [av]; exact aW _)
theorem vp:Bf i f en Qe (.list ts)=W (f en) (mW i Qe):=ar _ _ _
theorem vo (t:D):mW i Qe (t,en)=W (gv en i) (wv i t en Qe):=by unfold mW gv; cases h:(en[i]?).join with | none=>simp only [h,aW] | some x=>simp only [h,av]; cases x <;> first | rfl | exact (av _ _).symm | (rw [av]; rfl) | (rw [av]; exact aW _)
theorem vn (t:D):wv i t en Qe (.list ts)=(ts.length < sizeLine∧Qe (.none,en.set i (some (.list (ts++[t]))))):=dX _ _ _
theorem vm (g g2:D→D→Option D) (f1 f2 f3:ME):W (cB g g2 f1 f2 f3 en) Qe=W (f1 en) (kCh g g2 f2 f3 Qe):=(ar _ _ _).trans (congrArg _ (funext fun z=>(ar _ _ _).trans (congrArg _ (funext fun y=>ar _ _ _))))
theorem vj (g g2:D→D→Option D) (f2 f3:ME) (t:D):kCh g g2 f2 f3 Qe (t,en)=W (f2 en) (pO g g2 f3 t Qe):=rfl
theorem vi (g g2:D→D→Option D) (f3:ME) (t u:D):pO g g2 f3 t Qe (u,en)=W (g t u) (mU g2 u f3 en Qe):=rfl
theorem vh (g:D→D→Option D) (u:D) (f3:ME):mU g u f3 en Qe (.bool true)=W (f3 en) (k2b g u Qe):=(ar _ _ _).trans (congrArg _ (funext fun z=>ba _ _ _))
theorem vg (g:D→D→Option D) (u:D) (f3:ME):mU g u f3 en Qe (.bool false)=Qe (.bool false,en):=av _ _
theorem vf (Q:Option Int × En→Prop):W (aN en) Q=Q (none,en):=av _ _
theorem ve (Q:Option Int × En→Prop):W (az f en) Q=W (f en) (kOS Q):=ar _ _ _
theorem vd (n:Int) (Q:Option Int × En→Prop):kOS Q (.int n,en)=Q (some n,en):=av _ _
theorem vc (g:D→Option Int→Option Int→Option D) (lo hi:MO):W (eSl g f lo hi en) Qe=W (f en) (kSl g lo hi Qe):=(ar _ _ _).trans (congrArg _ (funext fun z=>(ar _ _ _).trans (congrArg _ (funext fun y=>(ar _ _ _).trans (congrArg _ (funext fun y=>ba _ _ _))))))
theorem vb (g:D→Option Int→Option Int→Option D) (lo hi:MO) (t:D):kSl g lo hi Qe (t,en)=W (lo en) (pL g t hi Qe):=rfl
theorem va (g:D→Option Int→Option Int→Option D) (hi:MO) (t:D) (a:Option Int):pL g t hi Qe (a,en)=W (hi en) (pK g t a Qe):=rfl
theorem u9 (g:D→Option Int→Option Int→Option D) (t:D) (a b:Option Int):pK g t a Qe (b,en)=W (g t a b) (db en Qe):=rfl
theorem u8 (g:Str→List D→Option D):W (eM g f fa en) Qe=W (f en) (kM g fa Qe):=ar _ _ _
theorem u7 (g:Str→List D→Option D) (z:Str):kM g fa Qe (.str z,en)=W (fa en) (kM1 g z Qe):=(ar _ _ _).trans (congrArg _ (funext fun z=>(ar _ _ _).trans (congrArg _ (funext fun y=>ba _ _ _))))
theorem u6 (g:Str→List D→Option D) (z:Str) (as:List (D ⊕ Nat)):kM1 g z Qe (as,en)=W (be as) (kM2 g z en Qe):=rfl
theorem u5 (g:Str→List D→Option D) (z:Str):kM2 g z en Qe ts=W (g z ts) (db en Qe):=rfl
theorem u4 (J:En→Prop):kIt J Qs (.nx en)=J en:=rfl
theorem u3 (J:En→Prop):kIt J Qs (.ct en)=J en:=rfl
theorem u0 (J:En→Prop) (t:D):kIt J Qs (.rt t en)=Qs (.rt t en):=rfl
theorem uZ (b:MS) (J:En→Prop):kFg b J Qs en=W (b en) (kIt J Qs):=rfl
theorem uY (b:MS) (J:En→Prop):kWh b J Qs (true,en)=W (b en) (kIt J Qs):=rfl
theorem uX (b:MS) (J:En→Prop):kWh b J Qs (false,en)=Qs (.nx en):=rfl
theorem uW (us:List D) (J:List D→En→Prop):Bb c f us J en=W (c en) (mS f us J):=rfl
theorem uV (us:List D) (J:List D→En→Prop):mS f us J (true,en)=W (f en) (pN us J):=rfl
theorem uU (us:List D) (J:List D→En→Prop):mS f us J (false,en)=J us en:=rfl
theorem uT (us:List D) (J:List D→En→Prop) (t:D):pN us J (t,en)=J (us++[t]) en:=rfl
theorem uS (n:Nat) (dps:List Nat) (b:MS):W (fnF n dps b ts) Qe=W (b (ts.map some++List.replicate n none)) (kFn dps Qe):=ar _ _ _
theorem uR (dps:List Nat) (t:D):kFn dps Qe (.rt t en)=Qe (t,msk dps en):=av _ _
theorem uQ (dps:List Nat):kFn dps Qe (.nx en)=Qe (.none,msk dps en):=av _ _
theorem uP (d:Nat) (ds:List Nat) (o:Option D):msk ((d+1) :: ds) (o :: en)=o :: msk ds en:=rfl
theorem uO (ds:List Nat) (o:Option D):msk (0 :: ds) (o :: en)=none :: msk ds en:=rfl
theorem uN:msk [] en=[]:=rfl
theorem uM (t:D):List.map some (t :: ts)=some t :: List.map some ts:=rfl
theorem uL:List.map (some:D→Option D) []=[]:=rfl
theorem uK (a:Option D) (l m:En):(a :: l)++m=a :: (l++m):=rfl
theorem uJ (m:En):([]:En)++m=m:=rfl
theorem uI (a:Option D):List.replicate 0 a=[]:=rfl
theorem uH (a:Option D) (n:Nat):List.replicate (n+1) a=a :: List.replicate n a:=rfl
theorem uG (a b:Int):bi (.int a) (.int b)=some (.int (a+b)):=rfl
theorem uF (a b:Str):W (bi (.str a) (.str b)) Qd=(a.length+b.length≤sizeLine∧Qd (.str (a++b))):=dX _ _ _
theorem uE (a b:Int):ge (.int a) (.int b)=some (.int (a - b)):=rfl
theorem uD (a b:Int):W (cI (.int a) (.int b)) Qd=(CMul a b∧Qd (.int (a * b))):=dX _ _ _
theorem uC (a b:Int):W (dG (.int a) (.int b)) Qd=(fW a b∧Qd (.int (a / b))):=dX _ _ _
theorem uB (a b:Int):W (bL (.int a) (.int b)) Qd=(0 < b∧Qd (.int (a % b))):=dX _ _ _
theorem uA (a b:Int):W (kw (.int a) (.int b)) Qd=(gA a b∧Qd (.int (a ^ b.toNat))):=dX _ _ _
theorem uz (a b:Int):ltI (.int a) (.int b)=some (.bool (decide (a < b))):=rfl
theorem uy (a b:Int):leI (.int a) (.int b)=some (.bool (decide (a≤b))):=rfl
theorem ux (a b:Int):gtI (.int a) (.int b)=some (.bool (decide (b < a))):=rfl
theorem uw (a b:Int):geI (.int a) (.int b)=some (.bool (decide (b≤a))):=rfl
theorem uv (a b:Int):eqD (.int a) (.int b)=some (.bool (decide (a=b))):=(BU a b).trans (congrArg (fun q=>some (PyData.bool q)) (l5 a b))
theorem uu (a b:Int):neD (.int a) (.int b)=some (.bool (!decide (a=b))):=(AX a b).trans (congrArg (fun q=>some (PyData.bool (!q))) (l5 a b))
theorem ut:aH "int" (.none)=some (.bool false):=congrArg (fun b=>some (PyData.bool b)) (show aJ "NoneType" "int"=false by decide)
theorem ur:aH "bool" (.none)=some (.bool false):=congrArg (fun b=>some (PyData.bool b)) (show aJ "NoneType" "bool"=false by decide)
theorem uq:aH "str" (.none)=some (.bool false):=congrArg (fun b=>some (PyData.bool b)) (show aJ "NoneType" "str"=false by decide)
theorem up:aH "list" (.none)=some (.bool false):=congrArg (fun b=>some (PyData.bool b)) (show aJ "NoneType" "list"=false by decide)
theorem uo:aH "tuple" (.none)=some (.bool false):=congrArg (fun b=>some (PyData.bool b)) (show aJ "NoneType" "tuple"=false by decide)
theorem um:aH "dict" (.none)=some (.bool false):=congrArg (fun b=>some (PyData.bool b)) (show aJ "NoneType" "dict"=false by decide)
theorem uk (x:Int):aH "int" (.int x)=some (.bool true):=congrArg (fun b=>some (PyData.bool b)) (show aJ "int" "int"=true by decide)
theorem uj (x:Int):aH "bool" (.int x)=some (.bool false):=congrArg (fun b=>some (PyData.bool b)) (show aJ "int" "bool"=false by decide)
theorem ui (x:Int):aH "str" (.int x)=some (.bool false):=congrArg (fun b=>some (PyData.bool b)) (show aJ "int" "str"=false by decide)
theorem uh (x:Int):aH "list" (.int x)=some (.bool false):=congrArg (fun b=>some (PyData.bool b)) (show aJ "int" "list"=false by decide)
theorem uf (x:Int):aH "tuple" (.int x)=some (.bool false):=congrArg (fun b=>some (PyData.bool b)) (show aJ "int" "tuple"=false by decide)
theorem ue (x:Int):aH "dict" (.int x)=some (.bool false):=congrArg (fun b=>some (PyData.bool b)) (show aJ "int" "dict"=false by decide)
theorem ud (x:Bool):aH "int" (.bool x)=some (.bool true):=congrArg (fun b=>some (PyData.bool b)) (show aJ "bool" "int"=true by decide)
theorem uc (x:Bool):aH "bool" (.bool x)=some (.bool true):=congrArg (fun b=>some (PyData.bool b)) (show aJ "bool" "bool"=true by decide)
theorem ub (x:Bool):aH "str" (.bool x)=some (.bool false):=congrArg (fun b=>some (PyData.bool b)) (show aJ "bool" "str"=false by decide)
theorem ua (x:Bool):aH "list" (.bool x)=some (.bool false):=congrArg (fun b=>some (PyData.bool b)) (show aJ "bool" "list"=false by decide)
theorem t9 (x:Bool):aH "tuple" (.bool x)=some (.bool false):=congrArg (fun b=>some (PyData.bool b)) (show aJ "bool" "tuple"=false by decide)
theorem t8 (x:Bool):aH "dict" (.bool x)=some (.bool false):=congrArg (fun b=>some (PyData.bool b)) (show aJ "bool" "dict"=false by decide)
theorem t7 (x:Str):aH "int" (.str x)=some (.bool false):=congrArg (fun b=>some (PyData.bool b)) (show aJ "str" "int"=false by decide)
theorem tZ (x:Str):aH "bool" (.str x)=some (.bool false):=congrArg (fun b=>some (PyData.bool b)) (show aJ "str" "bool"=false by decide)
theorem tY (x:Str):aH "str" (.str x)=some (.bool true):=congrArg (fun b=>some (PyData.bool b)) (show aJ "str" "str"=true by decide)
theorem tX (x:Str):aH "list" (.str x)=some (.bool false):=congrArg (fun b=>some (PyData.bool b)) (show aJ "str" "list"=false by decide)
theorem tW (x:Str):aH "tuple" (.str x)=some (.bool false):=congrArg (fun b=>some (PyData.bool b)) (show aJ "str" "tuple"=false by decide)
theorem tU (x:Str):aH "dict" (.str x)=some (.bool false):=congrArg (fun b=>some (PyData.bool b)) (show aJ "str" "dict"=false by decide)
theorem tT (x:List D):aH "int" (.list x)=some (.bool false):=congrArg (fun b=>some (PyData.bool b)) (show aJ "list" "int"=false by decide)
theorem tS (x:List D):aH "bool" (.list x)=some (.bool false):=congrArg (fun b=>some (PyData.bool b)) (show aJ "list" "bool"=false by decide)
theorem tR (x:List D):aH "str" (.list x)=some (.bool false):=congrArg (fun b=>some (PyData.bool b)) (show aJ "list" "str"=false by decide)
theorem tQ (x:List D):aH "list" (.list x)=some (.bool true):=congrArg (fun b=>some (PyData.bool b)) (show aJ "list" "list"=true by decide)
theorem tP (x:List D):aH "tuple" (.list x)=some (.bool false):=congrArg (fun b=>some (PyData.bool b)) (show aJ "list" "tuple"=false by decide)
theorem tO (x:List D):aH "dict" (.list x)=some (.bool false):=congrArg (fun b=>some (PyData.bool b)) (show aJ "list" "dict"=false by decide)
theorem tN (x:List D):aH "int" (.tuple x)=some (.bool false):=congrArg (fun b=>some (PyData.bool b)) (show aJ "tuple" "int"=false by decide)
theorem tM (x:List D):aH "bool" (.tuple x)=some (.bool false):=congrArg (fun b=>some (PyData.bool b)) (show aJ "tuple" "bool"=false by decide)
theorem tL (x:List D):aH "str" (.tuple x)=some (.bool false):=congrArg (fun b=>some (PyData.bool b)) (show aJ "tuple" "str"=false by decide)
theorem tK (x:List D):aH "list" (.tuple x)=some (.bool false):=congrArg (fun b=>some (PyData.bool b)) (show aJ "tuple" "list"=false by decide)
theorem tJ (x:List D):aH "tuple" (.tuple x)=some (.bool true):=congrArg (fun b=>some (PyData.bool b)) (show aJ "tuple" "tuple"=true by decide)
theorem tI (x:List D):aH "dict" (.tuple x)=some (.bool false):=congrArg (fun b=>some (PyData.bool b)) (show aJ "tuple" "dict"=false by decide)
theorem tH (x:List (D × D)):aH "int" (.dict x)=some (.bool false):=congrArg (fun b=>some (PyData.bool b)) (show aJ "dict" "int"=false by decide)
theorem tG (x:List (D × D)):aH "bool" (.dict x)=some (.bool false):=congrArg (fun b=>some (PyData.bool b)) (show aJ "dict" "bool"=false by decide)
theorem tE (x:List (D × D)):aH "str" (.dict x)=some (.bool false):=congrArg (fun b=>some (PyData.bool b)) (show aJ "dict" "str"=false by decide)
theorem tz (x:List (D × D)):aH "list" (.dict x)=some (.bool false):=congrArg (fun b=>some (PyData.bool b)) (show aJ "dict" "list"=false by decide)
theorem tw (x:List (D × D)):aH "tuple" (.dict x)=some (.bool false):=congrArg (fun b=>some (PyData.bool b)) (show aJ "dict" "tuple"=false by decide)
theorem tu (x:List (D × D)):aH "dict" (.dict x)=some (.bool true):=congrArg (fun b=>some (PyData.bool b)) (show aJ "dict" "dict"=true by decide)
theorem tq:((([]:List D).length:Nat):Int)=0:=rfl
theorem tp (x0:D):((([x0]:List D).length:Nat):Int)=1:=rfl
theorem tm (x0 x1:D):((([x0,x1]:List D).length:Nat):Int)=2:=rfl
theorem tj (x0 x1 x2:D):((([x0,x1,x2]:List D).length:Nat):Int)=3:=rfl
theorem tf (x0 x1 x2 x3:D):((([x0,x1,x2,x3]:List D).length:Nat):Int)=4:=rfl
theorem s0 (x0 x1 x2 x3 x4:D):((([x0,x1,x2,x3,x4]:List D).length:Nat):Int)=5:=rfl
theorem sZ (x0 x1 x2 x3 x4 x5:D):((([x0,x1,x2,x3,x4,x5]:List D).length:Nat):Int)=6:=rfl
theorem sY (x0 x1 x2 x3 x4 x5 x6:D):((([x0,x1,x2,x3,x4,x5,x6]:List D).length:Nat):Int)=7:=rfl
theorem sX (x0 x1 x2 x3 x4 x5 x6 x7:D):((([x0,x1,x2,x3,x4,x5,x6,x7]:List D).length:Nat):Int)=8:=rfl
theorem sW (x0 x1 x2 x3 x4 x5 x6 x7 x8:D):((([x0,x1,x2,x3,x4,x5,x6,x7,x8]:List D).length:Nat):Int)=9:=rfl
theorem sV (x0 x1 x2 x3 x4 x5 x6 x7 x8 x9:D):((([x0,x1,x2,x3,x4,x5,x6,x7,x8,x9]:List D).length:Nat):Int)=10:=rfl
theorem sU (x0 x1 x2 x3 x4 x5 x6 x7 x8 x9 x10:D):((([x0,x1,x2,x3,x4,x5,x6,x7,x8,x9,x10]:List D).length:Nat):Int)=11:=rfl
theorem sT (x0 x1 x2 x3 x4 x5 x6 x7 x8 x9 x10 x11:D):((([x0,x1,x2,x3,x4,x5,x6,x7,x8,x9,x10,x11]:List D).length:Nat):Int)=12:=rfl
theorem sS (x0 x1 x2 x3 x4 x5 x6 x7 x8 x9 x10 x11 x12:D):((([x0,x1,x2,x3,x4,x5,x6,x7,x8,x9,x10,x11,x12]:List D).length:Nat):Int)=13:=rfl
theorem sR (α β:Type) (f:α→β) (l:List α):(l.map f).length=l.length:=List.length_map f
theorem sQ:bp [.list ts]=some (.int ts.length):=rfl
theorem sP:bp [.tuple ts]=some (.int ts.length):=rfl
theorem sO (z:Str):W (bp [.str z]) Qd=(z.length≤sizeLine∧Qd (.int z.length)):=fR _ _ _
theorem sN (a:Int):il [.int a]=some (.int (if a < 0 then -a else a)):=rfl
theorem sM (a b:Int):j6 [.int a,.int b]=some (.int (if b < a then b else a)):=rfl
theorem sL (a:Int):da (.int a)=some (.int (-a)):=rfl
theorem sK:bR [.list ts]=some (.list ts):=rfl
theorem sJ:mr [.list ts]=some (.tuple ts):=rfl
theorem sI (n:Int):ixA (.list ts) (.int n)=atI ts n:=rfl
theorem sH:bR [.tuple ts]=some (.list ts):=rfl
theorem sG:mr [.tuple ts]=some (.tuple ts):=rfl
theorem sF (n:Int):ixA (.tuple ts) (.int n)=atI ts n:=rfl
theorem sE (ts us:List D):W (cx (.list ts) (.list us)) Qd=(ts.length+us.length≤sizeLine∧Qd (.list (ts++us))):=dX _ _ _
theorem sD (ts us:List D):W (gq (.tuple ts) (.tuple us)) Qd=(ts.length+us.length≤sizeLine∧Qd (.tuple (ts++us))):=dX _ _ _
theorem sC (lo hi:Option Int):ka (.list ts) lo hi=some (.list (bD ts lo hi)):=rfl
theorem sB:atI ts 0=ts[0]?:=aS ts _
theorem sA:atI ts 1=ts[1]?:=aS ts _
theorem sy:atI ts 2=ts[2]?:=aS ts _
theorem sx:atI ts 3=ts[3]?:=aS ts _
theorem sw:atI ts 4=ts[4]?:=aS ts _
theorem sv:atI ts 5=ts[5]?:=aS ts _
theorem su:atI ts 6=ts[6]?:=aS ts _
theorem ss:atI ts 7=ts[7]?:=aS ts _
theorem sr:atI ts 8=ts[8]?:=aS ts _
theorem so:atI ts 9=ts[9]?:=aS ts _
theorem sn:atI ts 10=ts[10]?:=aS ts _
theorem sm:atI ts 11=ts[11]?:=aS ts _
theorem sk:atI ts 12=ts[12]?:=aS ts _
theorem sj:atI ts 13=ts[13]?:=aS ts _
theorem si:atI ts 14=ts[14]?:=aS ts _
theorem sf:atI ts 15=ts[15]?:=aS ts _
theorem se:atI ts 16=ts[16]?:=aS ts _
theorem sd:atI ts 17=ts[17]?:=aS ts _
theorem r9:atI ts 18=ts[18]?:=aS ts _
theorem r8:atI ts 19=ts[19]?:=aS ts _
theorem r6:atI ts 20=ts[20]?:=aS ts _
theorem rZ (t:D):(t :: ts)[0]?=some t:=rfl
theorem rY (t:D):(t :: ts)[i+1]?=ts[i]?:=List.getElem?_cons_succ
theorem rX:W (dt i f en) Qe=W (gv en i) (A9 i f en Qe):=by unfold gv dt; cases (en[i]?).join with | none=>rw [aW,aW] | some x=>cases x <;> first | rfl | exact (av _ _).symm | (rw [av]; rfl) | (rw [av]; exact aW _)
theorem rW:A9 i f en Qe (.list ts)=W (f en) (mQ i Qe):=ar _ _ _
theorem rV (n:Int):mQ i Qe (.int n,en)=W (gv en i) (mP i n en Qe):=by unfold mQ gv; cases h:(en[i]?).join with | none=>simp only [h,aW] | some x=>simp only [h,av]; cases x <;> first | rfl | exact (av _ _).symm | (rw [av]; rfl) | (rw [av]; exact aW _)
theorem rT (n:Int):mP i n en Qe (.list ts)=((-(2 ^ 63)≤n∧n < 2 ^ 63)∧W (my ts n) (wp i en Qe)):=by unfold mP my; dsimp only; rw [ni]; congr 1; rw [ar,ar]; congr 1; funext k; rw [ba,ba]; rfl
theorem rS (t:D) (us:List D):wp i en Qe (t,us)=Qe (t,en.set i (some (.list us))):=rfl
theorem rR (z:Str) (n:Int):W (ixT (.str z) (.int n)) Qd=(z.length≤sizeLine∧W (atI (li z) n) (kS1 Qd)):=by show W (if _ then _ else _) _=_; rw [ni,ba]; rfl
theorem rQ (c:Nat):kS1 Qd c=Qd (.str (mk1 c)):=rfl
theorem rP (z:Str) (n:Int):W (pE (.str z) (.int n)) Qd=((z.length≤4000∧-(2 ^ 63)≤n∧n≤4000)∧Qd (.str (Txt.mul z n))):=fR _ _ _
theorem rO (z:Str) (lo hi:Option Int):W (aV (.str z) lo hi) Qd=(z.length≤sizeLine∧Qd (.str ⟨(cw z.cps.toList lo hi).toArray⟩)):=fR _ _ _
theorem rN (lo hi:Option Int):eF (.tuple ts) lo hi=some (.tuple (bD ts lo hi)):=by first | rfl | exact av _ _ | exact aW _
theorem rM (a b:Str):gJ (.str a) (.str b)=some (.bool (!cS b a)):=rfl
theorem rL (z:Str):W (iG (.str z)) Qd=(z.length < 4000∧Qd (.int (bc (bZ z) z.length).length)):=fR _ _ _
theorem rK:gI (.tuple ts) (.int (-1))=some (.tuple ts.reverse):=rfl
theorem rJ (z:Str):W (fE (.str z) (.int (-1))) Qd=(z.length≤sizeLine∧Qd (.str ⟨z.cps.toList.reverse.toArray⟩)):=fR _ _ _
theorem rH (a b:Bool):eqD (.bool a) (.bool b)=some (.bool (a == b)):=xS a b
theorem rG (a b:Bool):neD (.bool a) (.bool b)=some (.bool (!(a == b))):=wZ a b
theorem rF (a b:Str):eqD (.str a) (.str b)=some (.bool (decide (a=b))):=BS a b
theorem rE (a b:Str):neD (.str a) (.str b)=some (.bool (!decide (a=b))):=AV a b
theorem rD:neD (.list []) (.list [])=some (.bool false):=AW
theorem rC:eqD (.list []) (.list [])=some (.bool true):=BT
theorem rB (a:Bool):(a == a)=true:=beq_self_eq_true a
theorem rA:(true == false)=false:=rfl
theorem rz:(false == true)=false:=rfl
theorem rp (t:D) (ts acc:List D):W (lcF g c f (t :: ts) acc en) Ql=W (g t en) (kL1 g c f ts acc Ql):=by unfold lcF; rw [ar]; congr 1; funext z; rw [ar]; rfl
theorem rn (ts acc:List D):kL1 g c f ts acc Ql en=W (c en) (kL2 g c f ts acc Ql):=rfl
theorem rm (ts acc:List D):kL2 g c f ts acc Ql (true,en)=W (f en) (kL3 g c f ts acc Ql):=ar _ _ _
theorem rl (ts acc:List D):kL2 g c f ts acc Ql (false,en)=W (lcF g c f ts acc en) Ql:=rfl
theorem rj (ts acc:List D) (t:D):kL3 g c f ts acc Ql (t,en)=(acc.length < sizeLine∧W (lcF g c f ts (acc++[t]) en) Ql):=ni _ _ _
theorem rh (m:List D):([]++m:List D)=m:=rfl
theorem rg (x:D) (l m:List D):((x :: l)++m:List D)=x :: (l++m):=rfl
theorem rf:(([]:List D).length < sizeLine)=True:=eq_true (Nat.lt_of_lt_of_le (by show 0 < 100; decide) aT)
theorem re (x0:D):(([x0]:List D).length < sizeLine)=True:=eq_true (Nat.lt_of_lt_of_le (by show 1 < 100; decide) aT)
theorem q0 (x0 x1:D):(([x0,x1]:List D).length < sizeLine)=True:=eq_true (Nat.lt_of_lt_of_le (by show 2 < 100; decide) aT)
theorem qZ (x0 x1 x2:D):(([x0,x1,x2]:List D).length < sizeLine)=True:=eq_true (Nat.lt_of_lt_of_le (by show 3 < 100; decide) aT)
theorem qY (x0 x1 x2 x3:D):(([x0,x1,x2,x3]:List D).length < sizeLine)=True:=eq_true (Nat.lt_of_lt_of_le (by show 4 < 100; decide) aT)
theorem qX (x0 x1 x2 x3 x4:D):(([x0,x1,x2,x3,x4]:List D).length < sizeLine)=True:=eq_true (Nat.lt_of_lt_of_le (by show 5 < 100; decide) aT)
theorem qW (x0 x1 x2 x3 x4 x5:D):(([x0,x1,x2,x3,x4,x5]:List D).length < sizeLine)=True:=eq_true (Nat.lt_of_lt_of_le (by show 6 < 100; decide) aT)
theorem qV (x0 x1 x2 x3 x4 x5 x6:D):(([x0,x1,x2,x3,x4,x5,x6]:List D).length < sizeLine)=True:=eq_true (Nat.lt_of_lt_of_le (by show 7 < 100; decide) aT)
theorem qU (x0 x1 x2 x3 x4 x5 x6 x7:D):(([x0,x1,x2,x3,x4,x5,x6,x7]:List D).length < sizeLine)=True:=eq_true (Nat.lt_of_lt_of_le (by show 8 < 100; decide) aT)
theorem qT (x0 x1 x2 x3 x4 x5 x6 x7 x8:D):(([x0,x1,x2,x3,x4,x5,x6,x7,x8]:List D).length < sizeLine)=True:=eq_true (Nat.lt_of_lt_of_le (by show 9 < 100; decide) aT)
theorem qS (x0 x1 x2 x3 x4 x5 x6 x7 x8 x9:D):(([x0,x1,x2,x3,x4,x5,x6,x7,x8,x9]:List D).length < sizeLine)=True:=eq_true (Nat.lt_of_lt_of_le (by show 10 < 100; decide) aT)
theorem qR (x0 x1 x2 x3 x4 x5 x6 x7 x8 x9 x10:D):(([x0,x1,x2,x3,x4,x5,x6,x7,x8,x9,x10]:List D).length < sizeLine)=True:=eq_true (Nat.lt_of_lt_of_le (by show 11 < 100; decide) aT)
theorem qQ (x0 x1 x2 x3 x4 x5 x6 x7 x8 x9 x10 x11:D):(([x0,x1,x2,x3,x4,x5,x6,x7,x8,x9,x10,x11]:List D).length < sizeLine)=True:=eq_true (Nat.lt_of_lt_of_le (by show 12 < 100; decide) aT)
theorem qP (x0 x1 x2 x3 x4 x5 x6 x7 x8 x9 x10 x11 x12:D):(([x0,x1,x2,x3,x4,x5,x6,x7,x8,x9,x10,x11,x12]:List D).length < sizeLine)=True:=eq_true (Nat.lt_of_lt_of_le (by show 13 < 100; decide) aT)
theorem qO:ik [.list []]=some (.bool true):=rfl
theorem qN (a:Bool):ik [.list [.bool a]]=some (.bool a):=by cases a <;> rfl
theorem qM (a b:Bool):ik [.list [.bool a,.bool b]]=some (.bool (a && b)):=by cases a <;> cases b <;> rfl
theorem qL (x:D) (l:List D):bD (x :: l) (some 1) none=l:=xV x l
theorem qK (x:D) (l:List D):(HT.sIx (x :: l).length 0 (some 1)=0)=False:=CV x l
theorem qJ (p:Prop):(False∧p)=False:=false_and p
theorem qI:(¬ False)=True:=not_false_eq_true
theorem qH:(!true)=false:=rfl
theorem qG:(!false)=true:=rfl
theorem qF (p:Prop):(True∧p)=p:=true_and p
theorem qE (p:Prop):(p∧True)=p:=and_true p
theorem qD (_:Decidable True):decide True=true:=decide_eq_true trivial
theorem qC (_:Decidable False):decide False=false:=decide_eq_false (fun z=>z)
theorem qB (α:Sort 1) (a:α):(a=a)=True:=eq_self a
end
theorem yk:type_of% ws0∧type_of% ws1∧type_of% ws2∧type_of% ws3∧type_of% ws4∧type_of% ws5∧type_of% ws6∧type_of% ws7∧type_of% ws8∧type_of% ws9∧type_of% Ae∧type_of% Ad∧type_of% Ac∧type_of% Ab∧type_of% Aa∧type_of% zZ∧type_of% zY∧type_of% zX∧type_of% zW∧type_of% zV∧type_of% zU∧type_of% zT∧type_of% zS∧type_of% zR∧type_of% zQ∧type_of% zP∧type_of% zO∧type_of% zN∧type_of% zM∧type_of% zL∧type_of% zK∧type_of% zJ∧type_of% zI∧type_of% zH∧type_of% zG∧type_of% zF∧type_of% zE∧type_of% zC∧type_of% zB∧type_of% zA:=⟨ws0,ws1,ws2,ws3,ws4,ws5,ws6,ws7,ws8,ws9,Ae,Ad,Ac,Ab,Aa,zZ,zY,zX,zW,zV,zU,zT,zS,zR,zQ,zP,zO,zN,zM,zL,zK,zJ,zI,zH,zG,zF,zE,zC,zB,zA⟩
theorem yj:type_of% zz∧type_of% zy∧type_of% zx∧type_of% zw∧type_of% zv∧type_of% zu∧type_of% zt∧type_of% zr∧type_of% zq∧type_of% zp∧type_of% zo∧type_of% zn∧type_of% zm∧type_of% zh∧type_of% zg∧type_of% ze∧type_of% zd∧type_of% zc∧type_of% zb∧type_of% y9∧type_of% y8∧type_of% yZ∧type_of% yY∧type_of% yX∧type_of% yW∧type_of% yV∧type_of% yU∧type_of% yT∧type_of% yS∧type_of% yR∧type_of% yQ∧type_of% yP∧type_of% yO∧type_of% yN∧type_of% yM∧type_of% yL∧type_of% yK∧type_of% yJ∧type_of% yI∧type_of% yH:=⟨zz,zy,zx,zw,zv,zu,zt,zr,zq,zp,zo,zn,zm,zh,zg,ze,zd,zc,zb,y9,y8,yZ,yY,yX,yW,yV,yU,yT,yS,yR,yQ,yP,yO,yN,yM,yL,yK,yJ,yI,yH⟩
theorem yi:type_of% yG∧type_of% yF∧type_of% yE∧type_of% yD∧type_of% yC∧type_of% yB∧type_of% yA∧type_of% yz∧type_of% yy∧type_of% yx∧type_of% yw∧type_of% yv∧type_of% yu∧type_of% yt∧type_of% yr∧type_of% yq∧type_of% yp∧type_of% yo∧type_of% yn∧type_of% ym∧type_of% vV∧type_of% vU∧type_of% vT∧type_of% vS∧type_of% vR∧type_of% vQ∧type_of% vP∧type_of% vO∧type_of% vN∧type_of% vM∧type_of% vL∧type_of% vK∧type_of% vJ∧type_of% vI∧type_of% vH∧type_of% vG∧type_of% vF∧type_of% vE∧type_of% vD∧type_of% vC:=⟨yG,yF,yE,yD,yC,yB,yA,yz,yy,yx,yw,yv,yu,yt,yr,yq,yp,yo,yn,ym,vV,vU,vT,vS,vR,vQ,vP,vO,vN,vM,vL,vK,vJ,vI,vH,vG,vF,vE,vD,vC⟩
theorem yh:type_of% vB∧type_of% vA∧type_of% vz∧type_of% vy∧type_of% vx∧type_of% vw∧type_of% vv∧type_of% vt∧type_of% vr∧type_of% vq∧type_of% vp∧type_of% vo∧type_of% vn∧type_of% vm∧type_of% vj∧type_of% vi∧type_of% vh∧type_of% vg∧type_of% vf∧type_of% ve∧type_of% vd∧type_of% vc∧type_of% vb∧type_of% va∧type_of% u9∧type_of% u8∧type_of% u7∧type_of% u6∧type_of% u5∧type_of% u4∧type_of% u3∧type_of% u0∧type_of% uZ∧type_of% uY∧type_of% uX∧type_of% uW∧type_of% uV∧type_of% uU∧type_of% uT∧type_of% uS:=⟨vB,vA,vz,vy,vx,vw,vv,vt,vr,vq,vp,vo,vn,vm,vj,vi,vh,vg,vf,ve,vd,vc,vb,va,u9,u8,u7,u6,u5,u4,u3,u0,uZ,uY,uX,uW,uV,uU,uT,uS⟩
theorem yg:type_of% uR∧type_of% uQ∧type_of% uP∧type_of% uO∧type_of% uN∧type_of% uM∧type_of% uL∧type_of% uK∧type_of% uJ∧type_of% uI∧type_of% uH∧type_of% uG∧type_of% uF∧type_of% uE∧type_of% uD∧type_of% uC∧type_of% uB∧type_of% uA∧type_of% uz∧type_of% uy∧type_of% ux∧type_of% uw∧type_of% uv∧type_of% uu∧type_of% ut∧type_of% ur∧type_of% uq∧type_of% up∧type_of% uo∧type_of% um∧type_of% uk∧type_of% uj∧type_of% ui∧type_of% uh∧type_of% uf∧type_of% ue∧type_of% ud∧type_of% uc∧type_of% ub∧type_of% ua:=⟨uR,uQ,uP,uO,uN,uM,uL,uK,uJ,uI,uH,uG,uF,uE,uD,uC,uB,uA,uz,uy,ux,uw,uv,uu,ut,ur,uq,up,uo,um,uk,uj,ui,uh,uf,ue,ud,uc,ub,ua⟩
theorem yf:type_of% t9∧type_of% t8∧type_of% t7∧type_of% tZ∧type_of% tY∧type_of% tX∧type_of% tW∧type_of% tU∧type_of% tT∧type_of% tS∧type_of% tR∧type_of% tQ∧type_of% tP∧type_of% tO∧type_of% tN∧type_of% tM∧type_of% tL∧type_of% tK∧type_of% tJ∧type_of% tI∧type_of% tH∧type_of% tG∧type_of% tE∧type_of% tz∧type_of% tw∧type_of% tu∧type_of% tq∧type_of% tp∧type_of% tm∧type_of% tj∧type_of% tf∧type_of% s0∧type_of% sZ∧type_of% sY∧type_of% sX∧type_of% sW∧type_of% sV∧type_of% sU∧type_of% sT∧type_of% sS:=⟨t9,t8,t7,tZ,tY,tX,tW,tU,tT,tS,tR,tQ,tP,tO,tN,tM,tL,tK,tJ,tI,tH,tG,tE,tz,tw,tu,tq,tp,tm,tj,tf,s0,sZ,sY,sX,sW,sV,sU,sT,sS⟩
theorem ye:type_of% sR∧type_of% sQ∧type_of% sP∧type_of% sO∧type_of% sN∧type_of% sM∧type_of% sL∧type_of% sK∧type_of% sJ∧type_of% sI∧type_of% sH∧type_of% sG∧type_of% sF∧type_of% sE∧type_of% sD∧type_of% sC∧type_of% sB∧type_of% sA∧type_of% sy∧type_of% sx∧type_of% sw∧type_of% sv∧type_of% su∧type_of% ss∧type_of% sr∧type_of% so∧type_of% sn∧type_of% sm∧type_of% sk∧type_of% sj∧type_of% si∧type_of% sf∧type_of% se∧type_of% sd∧type_of% r9∧type_of% r8∧type_of% r6∧type_of% rZ∧type_of% rY∧type_of% rX:=⟨sR,sQ,sP,sO,sN,sM,sL,sK,sJ,sI,sH,sG,sF,sE,sD,sC,sB,sA,sy,sx,sw,sv,su,ss,sr,so,sn,sm,sk,sj,si,sf,se,sd,r9,r8,r6,rZ,rY,rX⟩
theorem yd:type_of% rW∧type_of% rV∧type_of% rT∧type_of% rS∧type_of% rR∧type_of% rQ∧type_of% rP∧type_of% rO∧type_of% rN∧type_of% rM∧type_of% rL∧type_of% rK∧type_of% rJ∧type_of% rH∧type_of% rG∧type_of% rF∧type_of% rE∧type_of% rD∧type_of% rC∧type_of% rB∧type_of% rA∧type_of% rz∧type_of% rp∧type_of% rn∧type_of% rm∧type_of% rl∧type_of% rj∧type_of% rh∧type_of% rg∧type_of% rf∧type_of% re∧type_of% q0∧type_of% qZ∧type_of% qY∧type_of% qX∧type_of% qW∧type_of% qV∧type_of% qU∧type_of% qT∧type_of% qS:=⟨rW,rV,rT,rS,rR,rQ,rP,rO,rN,rM,rL,rK,rJ,rH,rG,rF,rE,rD,rC,rB,rA,rz,rp,rn,rm,rl,rj,rh,rg,rf,re,q0,qZ,qY,qX,qW,qV,qU,qT,qS⟩
theorem yc:type_of% qR∧type_of% qQ∧type_of% qP∧type_of% qO∧type_of% qN∧type_of% qM∧type_of% qL∧type_of% qK∧type_of% qJ∧type_of% qI∧type_of% qH∧type_of% qG∧type_of% qF∧type_of% qE∧type_of% qD∧type_of% qC∧type_of% qB:=⟨qR,qQ,qP,qO,qN,qM,qL,qK,qJ,qI,qH,qG,qF,qE,qD,qC,qB⟩
theorem ws:type_of% yk∧type_of% yj∧type_of% yi∧type_of% yh∧type_of% yg∧type_of% yf∧type_of% ye∧type_of% yd∧type_of% yc:=⟨yk,yj,yi,yh,yg,yf,ye,yd,yc⟩
end L2
namespace L2
open PySem PySem.Spec PyProof.Rows
theorem kb {g:MG} {b:MS} {ts:List D} {en:En} {Q:Fl→Prop} (I:Nat→En→Prop) (h0:I 0 en)
  (hs:∀ i t en,ts[i]?=some t→I i en→W (g t en) (kFg b (I (i+1)) Q)) (hq:∀ en,I ts.length en→Q (.nx en)):W (bY g b ts en) Q:=by
 suffices ∀ (us:List D) (i:Nat) (en:En),ts.drop i=us→i≤ts.length→I i en→W (bY g b us en) Q from this ts 0 en rfl (Nat.zero_le _) h0
 intro us
 induction us with
 | nil =>
  intro i en hu hi h
  have:ts.length - i=0:=by rw [← List.length_drop,hu]; rfl
  simp only [ws]
  exact hq en (by rw [show ts.length=i by omega]; exact h)
 | cons t us ih =>
  intro i en hu hi h
  have ht:ts[i]?=some t:=by
   have:(ts.drop i)[0]?=some t:=by rw [hu]; rfl
   rw [List.getElem?_drop] at this
   exact this
  have hl:i < ts.length:=(List.getElem?_eq_some_iff.mp ht).1
  have hd:ts.drop (i+1)=us:=by rw [← List.drop_drop,hu]; rfl
  simp only [ws]
  refine (hs i t en ht h).use fun en1 h1=>?_
  simp only [ws] at h1 ⊢
  refine h1.use fun fl h2=>?_
  cases fl with
  | nx e=>simp only [ws] at h2 ⊢; exact ih (i+1) e hd hl h2
  | ct e=>simp only [ws] at h2 ⊢; exact ih (i+1) e hd hl h2
  | rt t e=>simp only [ws] at h2 ⊢; exact h2
theorem Dh {g:MG} {c:MT} {f:ME} {ts:List D} {en:En} {Q:List D × En→Prop} (I:Nat→List D→En→Prop) (hz:ts.length≤sizeLine) (h0:I 0 [] en)
  (hs:∀ i t us en,ts[i]?=some t→us.length≤i→I i us en→W (g t en) (Bb c f us (I (i+1)))) (hq:∀ us en,us.length≤ts.length→I ts.length us en→Q (us,en)):W (lcF g c f ts [] en) Q:=by
 suffices ∀ (vs:List D) (i:Nat) (us:List D) (en:En),ts.drop i=vs→i≤ts.length→us.length≤i→I i us en→W (lcF g c f vs us en) Q from this ts 0 [] en rfl (Nat.zero_le _) (Nat.zero_le _) h0
 intro vs
 induction vs with
 | nil =>
  intro i us en hu hi hl h
  have:ts.length - i=0:=by rw [← List.length_drop,hu]; rfl
  simp only [ws]
  exact hq us en (by omega) (by rw [show ts.length=i by omega]; exact h)
 | cons t vs ih =>
  intro i us en hu hi hl h
  have ht:ts[i]?=some t:=by
   have:(ts.drop i)[0]?=some t:=by rw [hu]; rfl
   rw [List.getElem?_drop] at this
   exact this
  have hlt:i < ts.length:=(List.getElem?_eq_some_iff.mp ht).1
  have hd:ts.drop (i+1)=vs:=by rw [← List.drop_drop,hu]; rfl
  unfold lcF
  rw [ar]
  refine (hs i t us en ht hl h).use fun en1 h1=>?_
  simp only [ws] at h1
  rw [ar]
  refine h1.use fun r h2=>?_
  obtain ⟨x,en2⟩:=r
  cases x with
  | true =>
   simp only [ws] at h2
   show W ((f en2).bind _) Q
   rw [ar]
   refine h2.use fun q h3=>?_
   obtain ⟨u,en3⟩:=q
   simp only [ws] at h3
   show W (if us.length < sizeLine then _ else _) Q
   rw [if_pos (by omega)]
   exact ih (i+1) _ _ hd hlt (by rw [List.length_append]; show _+1≤_; omega) h3
  | false =>
   simp only [ws] at h2
   exact ih (i+1) _ _ hd hlt (by omega) h2
theorem lm {f:ME} {ts:List D} {o:Option D} {rest:En} {Q:List D × En→Prop} (F:D→D) (hz:ts.length≤sizeLine) (hf:∀ t∈ts,W (f (some t :: rest)) (fun r=>r=(F t,some t :: rest))) (hq:∀ o',Q (ts.map F,o' :: rest)):W (lcF (gN 0) cY f ts [] (o :: rest)) Q:=by
 obtain ⟨o',e⟩:=w8 (f:=f) (F:=F) (rest:=rest) ts [] o (fun t ht=>by
  obtain ⟨r,e,h⟩:=(hf t ht).ex
  rw [e,h]) (by simpa using hz)
 exact W.of e (hq o')
theorem oV {c:MT} {f:ME} {ts:List D} {o:Option D} {rest:En} {Q:List D × En→Prop} (p:D→Bool) (F:D→D) (hz:ts.length≤sizeLine) (hc:∀ t∈ts,W (c (some t :: rest)) (fun r=>r=(p t,some t :: rest))) (hf:∀ t∈ts,p t=true→W (f (some t :: rest)) (fun r=>r=(F t,some t :: rest))) (hq:∀ o',Q ((ts.filter p).map F,o' :: rest)):W (lcF (gN 0) c f ts [] (o :: rest)) Q:=by
 obtain ⟨o',e⟩:=dE (c:=c) (f:=f) (p:=p) (F:=F) (rest:=rest) ts [] o (fun t ht=>by
  obtain ⟨r,e,h⟩:=(hc t ht).ex
  rw [e,h]) (fun t ht hp=>by
  obtain ⟨r,e,h⟩:=(hf t ht hp).ex
  rw [e,h]) (by simpa using hz)
 exact W.of e (hq o')
theorem jy {α:Type} {ts:List α} {i:Nat} {t:α} (h:ts[i]?=some t):ts.take (i+1)=ts.take i++[t]:=by
 rw [List.take_add_one,h]; rfl
theorem lp {g:MG} {b:MS} {ts:List D} {en:En} {Q:Fl→Prop} (J:En→Prop) (h0:J en) (hs:∀ t∈ts,∀ en,J en→W (g t en) (kFg b J Q)) (hq:∀ en,J en→Q (.nx en)):W (bY g b ts en) Q :=
 kb (fun _=>J) h0 (fun _ t en ht hj=>hs t (List.mem_of_getElem? ht) en hj) hq
theorem lM {i:Int} {n k:Nat} {t:D} (h:(ku i n)[k]?=some t):k < n∧t=.int (i+(k:Nat)):=by
 unfold ku at h
 rw [List.getElem?_map] at h
 obtain ⟨j,hj,rfl⟩:=Option.map_eq_some_iff.mp h
 obtain ⟨hl,e⟩:=List.getElem?_eq_some_iff.mp hj
 rw [List.getElem_range] at e
 rw [List.length_range] at hl
 exact ⟨hl,by rw [e]⟩
theorem gH (i:Int) (n:Nat):(ku i n).length=n:=by unfold ku; rw [List.length_map,List.length_range]
theorem sz {n:Nat} (h:n≤1000):n≤sizeLine:=Nat.le_trans h Pen3.sl1000
theorem szl {n:Nat} (h:n < 1000):n < sizeLine:=Nat.lt_of_lt_of_le h Pen3.sl1000
theorem gt {p:D} {m:Int} (hp:Pen3.IsPen p) (h3:0 < m) (h4:m < 1073741824) {Q:D × En→Prop} (h:∀ r p',0≤r→r < m→Pen3.IsPen p'→Q (.int r,[some p',none])):W (Pen3.F_law_draw [p,.int m]) Q:=by
 obtain ⟨r,p',e,h1,h2,h5⟩:=Pen3.draw_ok hp h3 h4
 exact W.of e (h r p' h1 h2 h5)
theorem CW {ns:List Int} {k:Int} (h0:0≤k) {Q:D × En→Prop} (h:∀ p,Pen3.IsPen p→Q (p,[none,none])):W (Pen3.F_law_pen [.list (ns.map .int),.int k]) Q:=by
 obtain ⟨p,e,hp⟩:=Pen3.pen_ok h0
 exact W.of e (h p hp)
end L2
set_option maxHeartbeats 1000000
namespace L2
namespace Tg
open PySem L2 Pen3
abbrev s1 (c:Nat):D:=.str (mk1 c)
def ev:Str:=("!\"#$&'()*+,-./0123456789:;<=>?@ABCDEFGHIJKLMNOPQRSTUVWXYZ" : Str)++("[\\]^_`abcdefghijklmnopqrstuvwxyz{|}~" : Str)
theorem k5:(li ev).length=93:=by decide +kernel
theorem CT:(li ev).Nodup:=by decide +kernel
theorem fq:∀ c∈li ev,33≤c∧c≤126∧c≠37:=by decide +kernel
theorem xQ:("!\"#$&'()*+,-./0123456789:;<=>?@ABCDEFGHIJKLMNOPQRSTUVWXYZ" : Str).length+("[\\]^_`abcdefghijklmnopqrstuvwxyz{|}~" : Str).length≤sizeLine:=sz (by decide +kernel)
theorem eD:∀ (l:List Nat) (k:Nat),(l.map s1).eraseIdx k=(l.eraseIdx k).map s1
 | [],_=>rfl
 | a :: l,0=>rfl
 | a :: l,k+1=>by
  show s1 a :: (l.map s1).eraseIdx k=s1 a :: (l.eraseIdx k).map s1
  rw [eD l k]
theorem nR {z:Str} (h:(li z).length≤1000):bR [.str z]=some (.list ((li z).map s1)):=by
 show grd (z.cps.size≤sizeLine) _=_
 unfold grd
 rw [if_pos (Nat.le_trans (by rw [← Array.length_toList]; exact h) sl1000)]
 rfl
theorem C4 {left:List Nat} {k:Nat} (hk:k < left.length):my (left.map s1) (k:Int)=some (s1 left[k],(left.eraseIdx k).map s1):=by
 unfold my
 rw [List.length_map,Ar (by omega) (by omega),Int.toNat_natCast]
 show Option.map _ _=_
 rw [List.getElem?_map,List.getElem?_eq_getElem hk,eD]
 rfl
def AJ:ME:=dt 2 (aO F_law_draw (bx 1 (ad (eN bp (ad (ae 2) ah)) ah)))
theorem B3 {ts:List D} {left:List Nat} {p:D} {o:Option D} {Q:List D × En→Prop} (hp:IsPen p) (h1:ts.length≤left.length) (h2:left.length≤1000)
  (hq:∀ (cs left':List Nat) o' p',(cs++left').Perm left→cs.length=ts.length→IsPen p'→Q (cs.map s1,[o',some p',some (.list (left'.map s1))])):W (lcF (gN 0) cY AJ ts [] [o,some p,some (.list (left.map s1))]) Q:=by
 refine Dh (fun i us en=>∃ (cs left':List Nat) (o:Option D) (p:D),us=cs.map s1∧en=[o,some p,some (.list (left'.map s1))]∧(cs++left').Perm left∧cs.length=i∧IsPen p) (sz (by omega)) ⟨[],left,o,p,rfl,rfl,List.Perm.refl _,rfl,hp⟩ ?_ ?_
 ·rintro i t us en ht hu ⟨cs,lf,o,p,rfl,rfl,hpm,hcs,hp⟩
  have hi:i < ts.length:=(List.getElem?_eq_some_iff.mp ht).1
  have hl:=hpm.length_eq
  rw [List.length_append] at hl
  simp only [ws,AJ]
  refine gt hp (by omega) (by omega) fun r p' r0 r1 hp'=>?_
  obtain ⟨k,rfl⟩:∃ k:Nat,r=k:=⟨r.toNat,(Int.toNat_of_nonneg r0).symm⟩
  have hk:k < lf.length:=by omega
  simp only [ws,C4 hk]
  refine ⟨by omega,cs++[lf[k]],lf.eraseIdx k,some t,p',by rw [List.map_append]; rfl,rfl,?_,by rw [List.length_append,hcs]; rfl,hp'⟩
  rw [List.append_assoc]
  exact (List.Perm.append_left cs (iZ lf k hk)).trans hpm
 ·rintro us en hu ⟨cs,lf,o,p,rfl,rfl,hpm,hcs,hp⟩
  exact hq cs lf o p hpm hcs hp
theorem i6 {α:Type} (xs:List α) (n:Nat):bD xs (some (n:Int)) none=xs.drop n:=by
 unfold bD
 rw [HT.sIx_none,HT.sIx_nat,List.take_of_length_le (by rw [List.length_drop]; exact Nat.le_refl _)]
 by_cases h:n≤xs.length
 ·rw [Nat.min_eq_left h]
 ·rw [Nat.min_eq_right (by omega),List.drop_eq_nil_of_le (Nat.le_refl _),List.drop_eq_nil_of_le (by omega)]
theorem i5 {α:Type} (xs:List α) (n:Nat):bD xs none (some (n:Int))=xs.take n:=by
 unfold bD
 rw [HT.sIx_none,HT.sIx_nat,List.drop_zero,Nat.sub_zero]
 by_cases h:n≤xs.length
 ·rw [Nat.min_eq_left h]
 ·rw [Nat.min_eq_right (by omega),List.take_of_length_le (Nat.le_refl _),List.take_of_length_le (by omega)]
theorem hU:∀ ks:List Str,joinD.strsOf (ks.map .str)=some ks
 | []=>rfl
 | c :: cs=>by
  show (joinD.strsOf (cs.map .str)).map (c :: ·)=_
  rw [hU cs]
  rfl
theorem gj {ks:List Str} (h:(aM ks).length≤1000) (h2:ks.length≤1000):joinD "" [.tuple (ks.map .str)]=some (.str (ofL (aM ks)))∧joinD "" [.list (ks.map .str)]=some (.str (ofL (aM ks))):=by
 have e:ofL (aM ks)=Txt.join "" ks:=(AZ (BY ks)).symm
 constructor
 ·show (joinD.strsOf (ks.map .str)).bind _=_
  rw [hU]
  show (if _ then _ else _)=_
  rw [if_pos ⟨by decide,by rw [lh]; omega⟩,e]
 ·show (joinD.strsOf (ks.map .str)).bind _=_
  rw [hU]
  show (if _ then _ else _)=_
  rw [if_pos ⟨by decide,by rw [lh]; omega⟩,e]
theorem lX {cs:List Nat} (h:cs.length≤1000):joinD "" [.list (cs.map s1)]=some (.str (ofL cs)):=by
 have e:(cs.map s1)=(cs.map mk1).map PyData.str:=by rw [List.map_map]; rfl
 have h2:=(gj (ks:=cs.map mk1) (by rw [lg]; exact h) (by rw [List.length_map]; exact h)).2
 rw [lg] at h2
 rw [e]
 exact h2
structure TOk (ks:List Str):Prop where
 n1:1≤ks.length
 n4:ks.length≤4
 fu:∀ k∈ks,1≤(li k).length∧(li k).length≤6
 nd:(aM ks).Nodup
 l12:(aM ks).length≤12
 l1:1≤(aM ks).length
 mem:∀ c∈aM ks,c∈li ev
def tD (ks:List Str):D:=.tuple (ks.map .str)
abbrev sgs (ks:List Str):Str:=ofL (aM ks)
theorem lW {ks:List Str} (T:TOk ks):joinD "" [tD ks]=some (.str (sgs ks)):=(gj (by have:=T.l12; omega) (by have:=T.n4; omega)).1
theorem mI (cs:List Nat):li (ofL cs)=cs:=rfl
theorem w6 (cs:List Nat):(ofL cs).length=cs.length:=by show cs.toArray.size=_; rw [List.size_toArray]
end Tg
end L2
namespace L2
namespace Tg
open PySem L2 Pen3
theorem nA (z y:Str) (i:Nat):Builtin.Str.subAt z y i=((((li z).drop i).take (li y).length) == li y):=StrLaws.subAt_eq z y i
theorem len_li (z:Str):(li z).length=z.length:=Array.length_toList
theorem oh (z y:Str):cS z y=true↔li y <:+: li z:=by
 have a:=len_li z
 have b:=len_li y
 unfold cS
 rw [StrLaws.found_iff]
 constructor
 ·rintro ⟨i,h1,h2⟩
  rw [nA,beq_iff_eq] at h2
  refine ⟨(li z).take i,((li z).drop i).drop (li y).length,?_⟩
  rw [List.append_assoc]
  conv=>rhs; rw [← List.take_append_drop i (li z)]
  congr 1
  conv=>rhs; rw [← List.take_append_drop (li y).length ((li z).drop i)]
  rw [h2]
 ·rintro ⟨s,t,h⟩
  refine ⟨s.length,?_,?_⟩
  ·have:=congrArg List.length h
   rw [List.length_append,List.length_append] at this
   omega
  ·rw [nA,beq_iff_eq,← h,List.append_assoc,List.drop_left,List.take_left]
abbrev rv (z:Str):Str:=⟨z.cps.toList.reverse.toArray⟩
end Tg
end L2
set_option maxHeartbeats 4000000
namespace W01
open PySem L2
def top (i:Nat):Stmt:=PySem.Challenge.pw_wordrules_k01_tongues_of_anything.main.body.getD i (.Pass ⟨0,0,0,0⟩)
structure Bl (mg:Str→Option Value):Prop where
 abs0:mg "abs"=none
 all0:mg "all"=none
 bool0:mg "bool"=none
 isinstance0:mg "isinstance"=none
 len0:mg "len"=none
 list0:mg "list"=none
 min0:mg "min"=none
 ord0:mg "ord"=none
 range0:mg "range"=none
 repr0:mg "repr"=none
 set0:mg "set"=none
 str0:mg "str"=none
 tuple0:mg "tuple"=none
section
variable {P:Program} {w:World} {K:PySem.W.Frag} {mg:Str→Option Value} {base:Heap} {f:Addr} {fd:FuncData}
abbrev io:Stmt:=top 7
abbrev lq:List Str:=["sign", "code"]
theorem scis_sign:FnScope lq ["sign"] (ay io):=⟨rfl,rfl,rfl,by decide +kernel,rfl,by decide +kernel,by decide +kernel⟩
def iq:MS:=(au (aC 1 (eN mC (ad (ae 0) ah)))
 (aR (ie (cB leI leI (eC (.int 33)) (ae 1) (eC (.int 126))) (e2 neD (ae 1) (eC (.int 37))))))
def cL:List D→Option (D × En):=fnF 1 [0] iq
theorem nK {k:Nat} (T:Bl mg) {jj:Tok} (jX:mg "LOWEST_CODE"=some (.int 33 jj)) {iu:Tok} (jp:mg "HIGHEST_CODE"=some (.int 126 iu)) {ir:Tok} (jo:mg "PERCENT_CODE"=some (.int 37 ir))  (F:Fun K "is_sign" "is_sign" io f fd):FnOk P w K mg base CX0 (k+1) f fd ["sign"] (spF K [0] 3 cL):=by
 have nd:=scis_sign.nd
 refine F.okQ (N:=lq) (b:=iq) (J:=⟨[],[0,0],3,[]⟩) (ds0:=[0,0]) scis_sign rfl rfl rfl rfl fun cdv A outer s H E hr=>?_
 exact (ai (ap (i:=1) (d:=0) (ds':=[0,0]) nd rfl (.inl rfl) (aj (d':=0) (aB Bw rfl T.ord0 (by decide +kernel) (aa (ac (i:=0) rfl (.inl rfl) rfl rfl rfl) af rfl) rfl (by decide) rfl rfl rfl) (by decide)) rfl (by decide) (by decide) rfl (.inl rfl))
  (aw (aD (kZ (m8 eA eA (cn rfl jX rfl) (ac (i:=1) rfl (.inl rfl) rfl rfl rfl) (cn rfl jp rfl) (by with_unfolding_all rfl)) (kW (fN (m4 (K:=K) rfl hr.units) (ac (i:=1) rfl (.inl rfl) rfl rfl rfl) (cn rfl jo rfl) (bF _)))) rfl)))
abbrev fS:Stmt:=top 8
abbrev ip:List Str:=["thing"]
theorem scis_kind:FnScope ip ["thing"] (ay fS):=⟨rfl,rfl,rfl,by decide +kernel,rfl,by decide +kernel,by decide +kernel⟩
def jh:ME:=(aO cL (ad (ae 0) ah))
def fX:MS:=(au (sIf (bOr (cU (tV (e1 (aH "str") (ae 0)))) (cU (tV (cB leI leI (eC (.int 1)) (eN bp (ad (ae 0) ah)) (eC (.int 6)))))) (aR (eC (.bool false))) bQ)
 (aR (eN ik (ad (eLC true (cJ (ae 0)) (gN 0) cY jh [none]) ah))))
def cM:List D→Option (D × En):=fnF 0 [0] fX
theorem nL {k:Nat} (T:Bl mg) {eo:Tok} (eQ:mg "MOST_SIGNS_OF_A_KIND"=some (.int 6 eo)) (qy:Kn P w K mg base k "is_sign" ["sign"] (spF K [0] 3 cL)) (F:Fun K "is_kind" "is_kind" fS f fd):FnOk P w K mg base CX0 (k+1) f fd ["thing"] (spF K [0] 3 cM):=by
 have nd:=scis_kind.nd
 refine F.okQ (N:=ip) (b:=fX) (J:=⟨[],[0],3,[]⟩) (ds0:=[0]) scis_kind rfl rfl rfl rfl fun cdv A outer s H E hr=>?_
 exact (ai (bB (ds2:=[0]) (qpt (ck (bG (b7 (dS (K:=K) (n:="str") rfl rfl T.isinstance0 rfl T.str0 (by decide +kernel) (by decide) (ac (i:=0) rfl (.inl rfl) rfl rfl rfl) (by decide) rfl rfl rfl rfl) (fun _=>rfl))) (de (bG (iU eA eA ag (aB (bH (K:=K) rfl) rfl T.len0 (by decide +kernel) (aa (ac (i:=0) rfl (.inl rfl) rfl rfl rfl) af rfl) rfl (by decide) rfl rfl rfl) (cn rfl eQ rfl) (by with_unfolding_all rfl)))))) (aw (aD br rfl)) bt)
  (aw (aD (aB (oE (K:=K) rfl rfl) rfl T.all0 (by decide +kernel) (aa (aj (d':=0) (gP (cd:=3) (d:=3) (dsi:=[0]) (lk:=[]) (BlkOkC.of (ns:=["sign"]) (js:=[none]) (N0:=ip) (sc0:=ay fS) rfl rfl (by decide +kernel)) rfl (ca (K:=K) rfl (ac (i:=0) rfl (.inl rfl) rfl rfl rfl)) (fun _ _ _ _ _=>(aY (i:=0) (ds':=[0]) (show (["sign"]:List Str).Nodup by decide +kernel) rfl (.inl rfl) rfl (by decide) (by decide) (.inr rfl))) (fun _ _ _ _ _=>dk) (fun _ _ _ _ _=>(cO qy hr rfl (aa (ac (i:=0) rfl (.inl rfl) rfl rfl rfl) af rfl) rfl rfl rfl rfl rfl)) rfl rfl (by decide) rfl (fun _=>rfl)) (by decide)) af rfl) rfl (by decide) rfl rfl rfl) rfl)))
abbrev eS:Stmt:=top 9
abbrev hC:List Str:=["signs"]
theorem scare_unlike:FnScope hC ["signs"] (ay eS):=⟨rfl,rfl,rfl,by decide +kernel,rfl,by decide +kernel,by decide +kernel⟩
def eY:MS:=(aR (e2 eqD (e1 iG (ae 0)) (eN bp (ad (ae 0) ah))))
def bW:List D→Option (D × En):=fnF 0 [0] eY
theorem ky {k:Nat} (T:Bl mg)   (F:Fun K "are_unlike" "are_unlike" eS f fd):FnOk P w K mg base CX0 (k+1) f fd ["signs"] (spF K [0] 3 bW):=by
 have nd:=scare_unlike.nd
 refine F.okQ (N:=hC) (b:=eY) (J:=⟨[],[0],3,[]⟩) (ds0:=[0]) scare_unlike rfl rfl rfl rfl fun cdv A outer s H E hr=>?_
 exact (aw (aD (fN (m5 (K:=K) rfl hr.units) (lE (K:=K) rfl rfl rfl T.len0 rfl T.set0 (by decide +kernel) (by decide +kernel) (ac (i:=0) rfl (.inl rfl) rfl rfl rfl) rfl) (aB (bH (K:=K) rfl) rfl T.len0 (by decide +kernel) (aa (ac (i:=0) rfl (.inl rfl) rfl rfl rfl) af rfl) rfl (by decide) rfl rfl rfl) (bF _)) rfl))
abbrev gu:Stmt:=top 11
abbrev jQ:List Str:=["tongue"]
theorem scsigns_of:FnScope jQ ["tongue"] (ay gu):=⟨rfl,rfl,rfl,by decide +kernel,rfl,by decide +kernel,by decide +kernel⟩
def gB:MS:=(aR (eM joinD (eC (.str "")) (ad (ae 0) ah)))
def du:List D→Option (D × En):=fnF 0 [0] gB
theorem mF {k:Nat} (T:Bl mg)   (F:Fun K "signs_of" "signs_of" gu f fd):FnOk P w K mg base CX0 (k+1) f fd ["tongue"] (spF K [0] 3 du):=by
 have nd:=scsigns_of.nd
 refine F.okQ (N:=jQ) (b:=gB) (J:=⟨[],[0],3,[]⟩) (ds0:=[0]) scsigns_of rfl rfl rfl rfl fun cdv A outer s H E hr=>?_
 exact (aw (aD (dq (K:=K) rfl PySem.F.slot_str_join PySem.F.type_str_join (fc rfl) fm a6 (aa (ac (i:=0) rfl (.inl rfl) rfl rfl rfl) af rfl) rfl rfl rfl rfl rfl rfl) rfl))
abbrev dI:Stmt:=top 10
abbrev fV:List Str:=["thing", "signs"]
theorem scis_tongue:FnScope fV ["thing"] (ay dI):=⟨rfl,rfl,rfl,by decide +kernel,rfl,by decide +kernel,by decide +kernel⟩
def gz:ME:=(aO cM (ad (ae 0) ah))
def dJ:MS:=(au (sIf (bOr (cU (tV (e1 (aH "tuple") (ae 0)))) (cU (tV (cB leI leI (eC (.int 1)) (eN bp (ad (ae 0) ah)) (eC (.int 4)))))) (aR (eC (.bool false))) bQ)
 (au (sIf (cU (tV (eN ik (ad (eLC true (cJ (ae 0)) (gN 0) cY gz [none]) ah)))) (aR (eC (.bool false))) bQ)
 (au (aC 1 (aO du (ad (ae 0) ah)))
 (aR (ie (e2 leI (eN bp (ad (ae 1) ah)) (eC (.int 12))) (aO bW (ad (ae 1) ah)))))))
def bU:List D→Option (D × En):=fnF 1 [0] dJ
theorem lw {k:Nat} (T:Bl mg) {jS:Tok} (kQ:mg "MOST_SIGNS"=some (.int 12 jS)) {jT:Tok} (kR:mg "MOST_KINDS"=some (.int 4 jT)) (oY:Kn P w K mg base k "signs_of" ["tongue"] (spF K [0] 3 du)) (lG:Kn P w K mg base k "are_unlike" ["signs"] (spF K [0] 3 bW)) (qz:Kn P w K mg base k "is_kind" ["thing"] (spF K [0] 3 cM)) (F:Fun K "is_tongue" "is_tongue" dI f fd):FnOk P w K mg base CX0 (k+1) f fd ["thing"] (spF K [0] 3 bU):=by
 have nd:=scis_tongue.nd
 refine F.okQ (N:=fV) (b:=dJ) (J:=⟨[],[0,0],3,[]⟩) (ds0:=[0,0]) scis_tongue rfl rfl rfl rfl fun cdv A outer s H E hr=>?_
 exact (ai (bB (ds2:=[0,0]) (qpt (ck (bG (b7 (dS (K:=K) (n:="tuple") rfl rfl T.isinstance0 rfl T.tuple0 (by decide +kernel) (by decide) (ac (i:=0) rfl (.inl rfl) rfl rfl rfl) (by decide) rfl rfl rfl rfl) (fun _=>rfl))) (de (bG (iU eA eA ag (aB (bH (K:=K) rfl) rfl T.len0 (by decide +kernel) (aa (ac (i:=0) rfl (.inl rfl) rfl rfl rfl) af rfl) rfl (by decide) rfl rfl rfl) (cn rfl kR rfl) (by with_unfolding_all rfl)))))) (aw (aD br rfl)) bt)
  (ai (bB (ds2:=[0,0]) (bG (b7 (aB (oE (K:=K) rfl rfl) rfl T.all0 (by decide +kernel) (aa (aj (d':=0) (gP (cd:=3) (d:=3) (dsi:=[0]) (lk:=[]) (BlkOkC.of (ns:=["kind"]) (js:=[none]) (N0:=fV) (sc0:=ay dI) rfl rfl (by decide +kernel)) rfl (ca (K:=K) rfl (ac (i:=0) rfl (.inl rfl) rfl rfl rfl)) (fun _ _ _ _ _=>(aY (i:=0) (ds':=[0]) (show (["kind"]:List Str).Nodup by decide +kernel) rfl (.inl rfl) rfl (by decide) (by decide) (.inr rfl))) (fun _ _ _ _ _=>dk) (fun _ _ _ _ _=>(cO qz hr rfl (aa (ac (i:=0) rfl (.inl rfl) rfl rfl rfl) af rfl) rfl rfl rfl rfl rfl)) rfl rfl (by decide) rfl (fun _=>rfl)) (by decide)) af rfl) rfl (by decide) rfl rfl rfl) (fun _=>rfl))) (aw (aD br rfl)) bt)
  (ai (ap (i:=1) (d:=0) (ds':=[0,0]) nd rfl (.inl rfl) (aj (d':=0) (cO oY hr rfl (aa (ac (i:=0) rfl (.inl rfl) rfl rfl rfl) af rfl) rfl rfl rfl rfl rfl) (by decide)) rfl (by decide) (by decide) rfl (.inl rfl))
  (aw (aD (kZ (fN eA (aB (bH (K:=K) rfl) rfl T.len0 (by decide +kernel) (aa (ac (i:=1) rfl (.inl rfl) rfl rfl rfl) af rfl) rfl (by decide) rfl rfl rfl) (cn rfl kQ rfl) (bF _)) (kW (cO lG hr rfl (aa (ac (i:=1) rfl (.inl rfl) rfl rfl rfl) af rfl) rfl rfl rfl rfl rfl))) rfl)))))
abbrev gw:Stmt:=top 13
abbrev jR:List Str:=["_law_script", "_law_k", "_law_cell"]
theorem sc_law_pen:FnScope jR ["_law_script", "_law_k"] (ay gw):=⟨rfl,rfl,rfl,by decide +kernel,rfl,by decide +kernel,by decide +kernel⟩
def bO:MS:=(au (aC 2 (eC (.int 0)))
 (au (sIf (tV (e2 gtI (eN bp (ad (ae 0) ah)) (eC (.int 0)))) (aC 2 (e2 ixA (ae 0) (e2 bL (ae 1) (eN bp (ad (ae 0) ah))))) bQ)
 (au (sIf (dW (tV (e2 ltI (ae 1) (eN bp (ad (ae 0) ah)))) (tV (e2 geI (eN il (ad (ae 2) ah)) (e2 kw (eC (.int 10)) (eC (.int 18)))))) (aR (aZ (ad (eN il (ad (ae 2) ah)) (ad (eC (.int 0)) (ad (eC (.int 0)) ah))))) bQ)
 (aR (aZ (ad (eC (.int 0)) (ad (e2 bi (e2 bL (ae 2) (eC (.int 999999937))) (e2 cI (eC (.int 70001)) (ae 1))) (ad (eC (.int 0)) ah))))))))
def F_law_pen:List D→Option (D × En):=fnF 1 [0,0] bO
theorem mG {k:Nat} (T:Bl mg)   (F:Fun K "_law_pen" "_law_pen" gw f fd):FnOk P w K mg base CX0 (k+1) f fd ["_law_script", "_law_k"] (spF K [0,0] 3 F_law_pen):=by
 have nd:=sc_law_pen.nd
 refine F.okQ (N:=jR) (b:=bO) (J:=⟨[],[0,0,0],3,[]⟩) (ds0:=[0,0,0]) sc_law_pen rfl rfl rfl rfl fun cdv A outer s H E hr=>?_
 exact (ai (ap (i:=2) (d:=0) (ds':=[0,0,0]) nd rfl (.inl rfl) (aj (d':=0) ag (by decide)) rfl (by decide) (by decide) rfl (.inl rfl))
  (ai (bB (ds2:=[0,0,0]) (bo j8 (aB (bH (K:=K) rfl) rfl T.len0 (by decide +kernel) (aa (ac (i:=0) rfl (.inl rfl) rfl rfl rfl) af rfl) rfl (by decide) rfl rfl rfl) ag (bF _)) (aw (ap (i:=2) (d:=0) (ds':=[0,0,0]) nd rfl (.inl rfl) (a8 (gL (K:=K) rfl) (ac (i:=0) rfl (.inl rfl) rfl rfl rfl) (aq dR (ac (i:=1) rfl (.inl rfl) rfl rfl rfl) (aB (bH (K:=K) rfl) rfl T.len0 (by decide +kernel) (aa (ac (i:=0) rfl (.inl rfl) rfl rfl rfl) af rfl) rfl (by decide) rfl rfl rfl)) (fun _ _=>rfl)) rfl (by decide) (by decide) rfl (.inl rfl))) bt)
  (ai (bB (ds2:=[0,0,0]) (qpt (pV (bo Cv (ac (i:=1) rfl (.inl rfl) rfl rfl rfl) (aB (bH (K:=K) rfl) rfl T.len0 (by decide +kernel) (aa (ac (i:=0) rfl (.inl rfl) rfl rfl rfl) af rfl) rfl (by decide) rfl rfl rfl) (bF _)) (om (bo Cw (aB oF rfl T.abs0 (by decide +kernel) (aa (ac (i:=2) rfl (.inl rfl) rfl rfl rfl) af rfl) rfl (by decide) rfl rfl rfl) (aq Bv ag ag) (bF _))))) (aw (aD (aU (d:=3) (c:=3) (aa (aB oF rfl T.abs0 (by decide +kernel) (aa (ac (i:=2) rfl (.inl rfl) rfl rfl rfl) af rfl) rfl (by decide) rfl rfl rfl) (aa ag (aa ag af rfl) rfl) rfl) rfl rfl (by decide)) rfl)) bt)
  (aw (aD (aU (d:=3) (c:=3) (aa ag (aa (aq bI (aq dR (ac (i:=2) rfl (.inl rfl) rfl rfl rfl) ag) (aq iW ag (ac (i:=1) rfl (.inl rfl) rfl rfl rfl))) (aa ag af rfl) rfl) rfl) rfl rfl (by decide)) rfl)))))
abbrev fU:Stmt:=top 14
abbrev jf:List Str:=["_law_pen_here", "_law_many", "_law_found", "_law_number"]
theorem sc_law_draw:FnScope jf ["_law_pen_here", "_law_many"] (ay fU):=⟨rfl,rfl,rfl,by decide +kernel,rfl,by decide +kernel,by decide +kernel⟩
def cu:MS:=(au (sIf (tV (e2 gtI (bM 0 (eC (.int 0))) (eC (.int 0)))) (au (aC 2 (e2 bL (bM 0 (eC (.int 0))) (ae 1)))
 (au (dg 0 (eC (.int 0)) (e2 dG (bM 0 (eC (.int 0))) (ae 1)))
 (aR (ae 2)))) bQ)
 (au (dg 0 (eC (.int 2)) (e2 bi (bM 0 (eC (.int 2))) (eC (.int 1))))
 (au (aC 3 (e2 bL (e2 bi (e2 bi (e2 cI (bM 0 (eC (.int 1))) (eC (.int 48271))) (e2 cI (bM 0 (eC (.int 2))) (eC (.int 39373)))) (eC (.int 11))) (eC (.int 2147483647))))
 (au (aC 3 (e2 bL (e2 cI (ae 3) (e2 bi (e2 bL (ae 3) (eC (.int 65521))) (bM 0 (eC (.int 2))))) (eC (.int 2147483629))))
 (aR (e2 bL (e2 dG (ae 3) (eC (.int 64))) (ae 1)))))))
def F_law_draw:List D→Option (D × En):=fnF 2 [1,0] cu
theorem ly {k:Nat} (T:Bl mg)   (F:Fun K "_law_draw" "_law_draw" fU f fd):FnOk P w K mg base CX0 (k+1) f fd ["_law_pen_here", "_law_many"] (spF K [1,0] 0 F_law_draw):=by
 have nd:=sc_law_draw.nd
 refine F.okQ (N:=jf) (b:=cu) (J:=⟨[0],[1,0,0,0],0,[]⟩) (ds0:=[1,0,0,0]) sc_law_draw rfl rfl rfl rfl fun cdv A outer s H E hr=>?_
 exact (ai (bB (ds2:=[1,0,0,0]) (bo j8 (cK (K:=K) (i:=0) rfl rfl (.inl rfl) rfl ag (fun _ _=>rfl) rfl rfl) ag (bF _)) (ai (ap (i:=2) (d:=0) (ds':=[1,0,0,0]) nd rfl (.inl rfl) (aj (d':=0) (aq dR (cK (K:=K) (i:=0) rfl rfl (.inl rfl) rfl ag (fun _ _=>rfl) rfl rfl) (ac (i:=1) rfl (.inl rfl) rfl rfl rfl)) (by decide)) rfl (by decide) (by decide) rfl (.inl rfl))
  (ai (iV (i:=0) (d:=1) (c:=0) rfl (.inl rfl) (aj (d':=0) (aq l9 (cK (K:=K) (i:=0) rfl rfl (.inl rfl) rfl ag (fun _ _=>rfl) rfl rfl) (ac (i:=1) rfl (.inl rfl) rfl rfl rfl)) (by decide)) ag rfl (by decide) rfl rfl rfl (fun _=>rfl) rfl rfl rfl)
  (aw (aD (ac (i:=2) rfl (.inl rfl) rfl rfl rfl) rfl)))) bt)
  (ai (iV (i:=0) (d:=1) (c:=0) rfl (.inl rfl) (aj (d':=0) (aq bI (cK (K:=K) (i:=0) rfl rfl (.inl rfl) rfl ag (fun _ _=>rfl) rfl rfl) ag) (by decide)) ag rfl (by decide) rfl rfl rfl (fun _=>rfl) rfl rfl rfl)
  (ai (ap (i:=3) (d:=0) (ds':=[1,0,0,0]) nd rfl (.inl rfl) (aj (d':=0) (aq dR (aq bI (aq bI (aq iW (cK (K:=K) (i:=0) rfl rfl (.inl rfl) rfl ag (fun _ _=>rfl) rfl rfl) ag) (aq iW (cK (K:=K) (i:=0) rfl rfl (.inl rfl) rfl ag (fun _ _=>rfl) rfl rfl) ag)) ag) ag) (by decide)) rfl (by decide) (by decide) rfl (.inl rfl))
  (ai (ap (i:=3) (d:=0) (ds':=[1,0,0,0]) nd rfl (.inl rfl) (aj (d':=0) (aq dR (aq iW (ac (i:=3) rfl (.inl rfl) rfl rfl rfl) (aq bI (aq dR (ac (i:=3) rfl (.inl rfl) rfl rfl rfl) ag) (cK (K:=K) (i:=0) rfl rfl (.inl rfl) rfl ag (fun _ _=>rfl) rfl rfl))) ag) (by decide)) rfl (by decide) (by decide) rfl (.inl rfl))
  (aw (aD (aj (d':=0) (aq dR (aq l9 (ac (i:=3) rfl (.inl rfl) rfl rfl rfl) ag) (ac (i:=1) rfl (.inl rfl) rfl rfl rfl)) (by decide)) rfl))))))
abbrev eV:Stmt:=top 15
abbrev hG:List Str:=["_law_text"]
theorem sc_law_every:FnScope hG [] (ay eV):=⟨rfl,rfl,rfl,by decide +kernel,rfl,by decide +kernel,by decide +kernel⟩
def e7:MS:=(au (aC 0 (eC (.str "!\"#$&'()*+,-./0123456789:;<=>?@ABCDEFGHIJKLMNOPQRSTUVWXYZ")))
 (aR (e2 bi (ae 0) (eC (.str "[\\]^_`abcdefghijklmnopqrstuvwxyz{|}~")))))
def bA:List D→Option (D × En):=fnF 1 [] e7
theorem kA {k:Nat} (T:Bl mg)   (F:Fun K "_law_every" "_law_every" eV f fd):FnOk P w K mg base CX0 (k+1) f fd [] (spF K [] 3 bA):=by
 have nd:=sc_law_every.nd
 refine F.okQ (N:=hG) (b:=e7) (J:=⟨[],[0],3,[]⟩) (ds0:=[0]) sc_law_every rfl rfl rfl rfl fun cdv A outer s H E hr=>?_
 exact (ai (ap (i:=0) (d:=0) (ds':=[0]) nd rfl (.inl rfl) (aj (d':=0) a6 (by decide)) rfl (by decide) (by decide) rfl (.inl rfl))
  (aw (aD (aq bI (ac (i:=0) rfl (.inl rfl) rfl rfl rfl) a6) rfl)))
abbrev cX:Stmt:=top 16
abbrev ee:List Str:=["_law_pen_here", "_law_many", "_law_left"]
theorem sc_law_unlike:FnScope ee ["_law_pen_here", "_law_many"] (ay cX):=⟨rfl,rfl,rfl,by decide +kernel,rfl,by decide +kernel,by decide +kernel⟩
def jw:ME:=(dt 2 (aO F_law_draw (bx 1 (ad (eN bp (ad (ae 2) ah)) ah))))
def ei:MS:=(au (aC 2 (eN bR (ad (aO bA ah) ah)))
 (aR (eLC false (cT (ad (ae 1) ah)) (gN 0) cY jw [none,some 0,some 2])))
def aX:List D→Option (D × En):=fnF 1 [1,0] ei
theorem jV {k:Nat} (T:Bl mg)  (eW:Kn P w K mg base k "_law_every" [] (spF K [] 3 bA)) (bT:Kn P w K mg base k "_law_draw" ["_law_pen_here", "_law_many"] (spF K [1,0] 0 F_law_draw)) (F:Fun K "_law_unlike" "_law_unlike" cX f fd):FnOk P w K mg base CX0 (k+1) f fd ["_law_pen_here", "_law_many"] (spF K [1,0] 1 aX):=by
 have nd:=sc_law_unlike.nd
 refine F.okQ (N:=ee) (b:=ei) (J:=⟨[0],[1,0,0],1,[]⟩) (ds0:=[1,0,0]) sc_law_unlike rfl rfl rfl rfl fun cdv A outer s H E hr=>?_
 exact (ai (ap (i:=2) (d:=1) (ds':=[1,0,1]) nd rfl (.inr rfl) (bz (fj (K:=K) rfl rfl) rfl T.list0 (by decide +kernel) (aa (aj (d':=0) (kX eW hr rfl rfl) (by decide)) af rfl) rfl (by decide) rfl rfl rfl) rfl (by decide) (by decide) rfl (.inl rfl))
  (aw (aD (p9 (cd:=0) (d:=1) (dsi:=[0,1,1]) (lk:=[1,2]) (BlkOkC.of (ns:=["_law_k", "_law_pen_here", "_law_left"]) (js:=[none,some 0,some 2]) (N0:=ee) (sc0:=ay cX) rfl rfl (by decide +kernel)) rfl (dm rfl T.range0 (aa (ac (i:=1) rfl (.inl rfl) rfl rfl rfl) af rfl) rfl) (fun _ _ _ _ _=>(aY (i:=0) (ds':=[0,1,1]) (show (["_law_k", "_law_pen_here", "_law_left"]:List Str).Nodup by decide +kernel) rfl (.inl rfl) rfl (by decide) (by decide) (.inr rfl))) (fun _ _ _ _ _=>dk) (fun _ _ _ _ _=>(m6 (K:=K) (i:=2) (d:=1) rfl rfl (.inr (.inl rfl)) rfl (bC bT hr rfl (bg (i:=1) rfl (.inr (.inl rfl)) (aa (aj (d':=0) (kY (ds0:=[0,1,0]) (aB (bH (K:=K) rfl) rfl T.len0 (by decide +kernel) (aa (ac (i:=2) rfl (.inr (.inl rfl)) rfl rfl rfl) af rfl) rfl (by decide) rfl rfl rfl) rfl) (by decide)) af rfl) rfl rfl) rfl rfl rfl rfl) (by decide) rfl rfl rfl rfl rfl rfl rfl rfl)) rfl rfl (by decide) rfl (fun _=>rfl)) rfl)))
abbrev dZ:Stmt:=top 17
abbrev gx:List Str:=["_law_pen_here", "_law_many", "_law_way", "_law_signs", "_law_kinds", "_law_k", "_law_most", "_law_size"]
theorem sc_law_tongue:FnScope gx ["_law_pen_here"] (ay dZ):=⟨rfl,rfl,rfl,by decide +kernel,rfl,by decide +kernel,by decide +kernel⟩
def fw:MS:=(au (aC 6 (eN j6 (ad (eC (.int 6)) (ad (e2 ge (eN bp (ad (ae 3) ah)) (e2 ge (e2 ge (ae 1) (eC (.int 1))) (ae 5))) ah))))
 (au (aC 7 (e2 ixA (aZ (ad (eC (.int 1)) (ad (ae 6) (ad (e2 bi (eC (.int 1)) (aO F_law_draw (bx 0 (ad (ae 6) ah)))) ah)))) (eN j6 (ad (eC (.int 2)) (ad (ae 2) ah)))))
 (au (jl (ic 4 (eM joinD (eC (.str "")) (ad (eSl ka (ae 3) aN (az (ae 7))) ah))))
 (aC 3 (eSl ka (ae 3) (az (ae 7)) aN)))))
def ek:MS:=(au (aC 1 (e2 bi (eC (.int 1)) (aO F_law_draw (bx 0 (ad (eC (.int 4)) ah)))))
 (au (aC 2 (aO F_law_draw (bx 0 (ad (eC (.int 6)) ah))))
 (au (aC 3 (aO aX (bx 0 (ad (eC (.int 12)) ah))))
 (au (aC 4 (aZ ah))
 (au (dw (cT (ad (ae 1) ah)) (gN 5) fw)
 (aR (eN mr (ad (ae 4) ah))))))))
def bN:List D→Option (D × En):=fnF 7 [1] ek
theorem jW {k:Nat} (T:Bl mg)  (bT:Kn P w K mg base k "_law_draw" ["_law_pen_here", "_law_many"] (spF K [1,0] 0 F_law_draw)) (ce:Kn P w K mg base k "_law_unlike" ["_law_pen_here", "_law_many"] (spF K [1,0] 1 aX)) (F:Fun K "_law_tongue" "_law_tongue" dZ f fd):FnOk P w K mg base CX0 (k+1) f fd ["_law_pen_here"] (spF K [1] 0 bN):=by
 have nd:=sc_law_tongue.nd
 refine F.okQ (N:=gx) (b:=ek) (J:=⟨[0],[1,0,0,0,0,0,0,0],0,[]⟩) (ds0:=[1,0,0,0,0,0,0,0]) sc_law_tongue rfl rfl rfl rfl fun cdv A outer s H E hr=>?_
 exact (ai (ap (i:=1) (d:=0) (ds':=[1,0,0,0,0,0,0,0]) nd rfl (.inl rfl) (aj (d':=0) (aq bI ag (bC bT hr rfl (bg (i:=0) rfl (.inl rfl) (aa (aj (d':=0) ag (by decide)) af rfl) rfl rfl) rfl rfl rfl rfl)) (by decide)) rfl (by decide) (by decide) rfl (.inl rfl))
  (ai (ap (i:=2) (d:=0) (ds':=[1,0,0,0,0,0,0,0]) nd rfl (.inl rfl) (bC bT hr rfl (bg (i:=0) rfl (.inl rfl) (aa (aj (d':=0) ag (by decide)) af rfl) rfl rfl) rfl rfl rfl rfl) rfl (by decide) (by decide) rfl (.inl rfl))
  (ai (ap (i:=3) (d:=0) (ds':=[1,0,0,0,0,0,0,0]) nd rfl (.inl rfl) (aj (d':=0) (bC ce hr rfl (bg (i:=0) rfl (.inl rfl) (aa (aj (d':=0) ag (by decide)) af rfl) rfl rfl) rfl rfl rfl rfl) (by decide)) rfl (by decide) (by decide) rfl (.inl rfl))
  (ai (ap (i:=4) (d:=1) (ds':=[1,0,0,0,1,0,0,0]) nd rfl (.inl rfl) (aj (d':=1) (aU (d:=3) (c:=3) af rfl rfl (by decide)) (by decide)) rfl (by decide) (by decide) rfl (.inl rfl))
  (ai (b8 (ds1:=[1,0,0,0,1,0,0,0]) rfl (dm rfl T.range0 (aa (ac (i:=1) rfl (.inl rfl) rfl rfl rfl) af rfl) rfl) (aY (i:=5) (ds':=[1,0,0,0,1,0,0,0]) nd rfl (.inl rfl) rfl (by decide) (by decide) (.inl rfl)) (ai (ap (i:=6) (d:=0) (ds':=[1,0,0,0,1,0,0,0]) nd rfl (.inl rfl) (aj (d':=0) (aB (l8 rfl) rfl T.min0 (by decide +kernel) (aa (aj (d':=0) ag (by decide)) (aa (aj (d':=0) (aq kS (aB (bH (K:=K) rfl) rfl T.len0 (by decide +kernel) (aa (ac (i:=3) rfl (.inl rfl) rfl rfl rfl) af rfl) rfl (by decide) rfl rfl rfl) (aq kS (aq kS (ac (i:=1) rfl (.inl rfl) rfl rfl rfl) ag) (ac (i:=5) rfl (.inl rfl) rfl rfl rfl))) (by decide)) af rfl) rfl) rfl (by decide) rfl rfl rfl) (by decide)) rfl (by decide) (by decide) rfl (.inl rfl))
  (ai (ap (i:=7) (d:=0) (ds':=[1,0,0,0,1,0,0,0]) nd rfl (.inl rfl) (a8 (gL (K:=K) rfl) (aU (d:=1) (c:=0) (aa ag (aa (ac (i:=6) rfl (.inl rfl) rfl rfl rfl) (aa (aq bI ag (bC bT hr rfl (bg (i:=0) rfl (.inl rfl) (aa (ac (i:=6) rfl (.inl rfl) rfl rfl rfl) af rfl) rfl rfl) rfl rfl rfl rfl)) af rfl) rfl) rfl) rfl rfl (by decide)) (aB (l8 rfl) rfl T.min0 (by decide +kernel) (aa (aj (d':=0) ag (by decide)) (aa (ac (i:=2) rfl (.inl rfl) rfl rfl rfl) af rfl) rfl) rfl (by decide) rfl rfl rfl) (fun _ _=>rfl)) rfl (by decide) (by decide) rfl (.inl rfl))
  (ai (oD (qg (K:=K) (i:=4) (d:=1) rfl rfl (.inl rfl) rfl (aj (d':=0) (dq (K:=K) rfl PySem.F.slot_str_join PySem.F.type_str_join (fc rfl) fm a6 (aa (aj (d':=0) (ao (ma (K:=K) rfl) (ac (i:=3) rfl (.inl rfl) rfl rfl rfl) aE (am (ac (i:=7) rfl (.inl rfl) rfl rfl rfl))) (by decide)) af rfl) rfl rfl rfl rfl rfl rfl) (by decide)) (by decide) rfl rfl rfl rfl rfl rfl rfl rfl) rfl)
  (aw (ap (i:=3) (d:=0) (ds':=[1,0,0,0,1,0,0,0]) nd rfl (.inl rfl) (aj (d':=0) (ao (ma (K:=K) rfl) (ac (i:=3) rfl (.inl rfl) rfl rfl rfl) (am (ac (i:=7) rfl (.inl rfl) rfl rfl rfl)) aE) (by decide)) rfl (by decide) (by decide) rfl (.inl rfl)))))) PassesOwn.never (fun _=>rfl))
  (aw (aD (bz (p4 (K:=K) rfl) rfl T.tuple0 (by decide +kernel) (aa (xJ (ds0:=[1,0,0,0,0,0,0,0]) (ac (p:=false) (i:=4) rfl (.inl rfl) rfl rfl rfl) rfl) af rfl) rfl (by decide) rfl rfl rfl) rfl)))))))
abbrev cZ:Stmt:=top 18
abbrev eG:List Str:=["_law_thing", "_law_seen", "_law_kind", "_law_sign"]
theorem sc_law_is_tongue:FnScope eG ["_law_thing"] (ay cZ):=⟨rfl,rfl,rfl,by decide +kernel,rfl,by decide +kernel,by decide +kernel⟩
def cz:MS:=(au (sIf (bOr (tV (e2 dIn (ae 3) (ae 1))) (tV (e2 gJ (ae 3) (aO bA ah)))) (aR (eC (.bool false))) bQ)
 (gE 1 (ae 3) (eC (.bool true))))
def cy:MS:=(au (sIf (bOr (cU (tV (e1 (aH "str") (ae 2)))) (bOr (tV (e2 eqD (eN bp (ad (ae 2) ah)) (eC (.int 0)))) (tV (e2 gtI (eN bp (ad (ae 2) ah)) (eC (.int 6)))))) (aR (eC (.bool false))) bQ)
 (dw (cJ (ae 2)) (gN 3) cz))
def b6:MS:=(au (sIf (bOr (cU (tV (e1 (aH "tuple") (ae 0)))) (bOr (tV (e2 eqD (eN bp (ad (ae 0) ah)) (eC (.int 0)))) (tV (e2 gtI (eN bp (ad (ae 0) ah)) (eC (.int 4)))))) (aR (eC (.bool false))) bQ)
 (au (aC 1 dH)
 (au (dw (cJ (ae 0)) (gN 2) cy)
 (aR (e2 leI (eN mJ (ad (ae 1) ah)) (eC (.int 12)))))))
def bj:List D→Option (D × En):=fnF 3 [0] b6
theorem h9 {k:Nat} (T:Bl mg)  (eW:Kn P w K mg base k "_law_every" [] (spF K [] 3 bA)) (F:Fun K "_law_is_tongue" "_law_is_tongue" cZ f fd):FnOk P w K mg base CX0 (k+1) f fd ["_law_thing"] (spF K [0] 3 bj):=by
 have nd:=sc_law_is_tongue.nd
 refine F.okQ (N:=eG) (b:=b6) (J:=⟨[],[0,0,0,0],3,[]⟩) (ds0:=[0,0,0,0]) sc_law_is_tongue rfl rfl rfl rfl fun cdv A outer s H E hr=>?_
 exact (ai (bB (ds2:=[0,0,0,0]) (qpt (ck (bG (b7 (dS (K:=K) (n:="tuple") rfl rfl T.isinstance0 rfl T.tuple0 (by decide +kernel) (by decide) (ac (i:=0) rfl (.inl rfl) rfl rfl rfl) (by decide) rfl rfl rfl rfl) (fun _=>rfl))) (ck (bo (m5 (K:=K) rfl hr.units) (aB (bH (K:=K) rfl) rfl T.len0 (by decide +kernel) (aa (ac (i:=0) rfl (.inl rfl) rfl rfl rfl) af rfl) rfl (by decide) rfl rfl rfl) ag (bF _)) (de (bo j8 (aB (bH (K:=K) rfl) rfl T.len0 (by decide +kernel) (aa (ac (i:=0) rfl (.inl rfl) rfl rfl rfl) af rfl) rfl (by decide) rfl rfl rfl) ag (bF _)))))) (aw (aD br rfl)) bt)
  (ai (ap (i:=1) (d:=1) (ds':=[0,1,0,0]) nd rfl (.inl rfl) (aj (d':=1) gk (by decide)) rfl (by decide) (by decide) rfl (.inl rfl))
  (ai (b8 (ds1:=[0,1,0,0]) rfl (ca (K:=K) rfl (ac (i:=0) rfl (.inl rfl) rfl rfl rfl)) (aY (i:=2) (ds':=[0,1,0,0]) nd rfl (.inl rfl) rfl (by decide) (by decide) (.inl rfl)) (ai (bB (ds2:=[0,1,0,0]) (qpt (ck (bG (b7 (dS (K:=K) (n:="str") rfl rfl T.isinstance0 rfl T.str0 (by decide +kernel) (by decide) (ac (i:=2) rfl (.inl rfl) rfl rfl rfl) (by decide) rfl rfl rfl rfl) (fun _=>rfl))) (ck (bo (m5 (K:=K) rfl hr.units) (aB (bH (K:=K) rfl) rfl T.len0 (by decide +kernel) (aa (ac (i:=2) rfl (.inl rfl) rfl rfl rfl) af rfl) rfl (by decide) rfl rfl rfl) ag (bF _)) (de (bo j8 (aB (bH (K:=K) rfl) rfl T.len0 (by decide +kernel) (aa (ac (i:=2) rfl (.inl rfl) rfl rfl rfl) af rfl) rfl (by decide) rfl rfl rfl) ag (bF _)))))) (aw (aD br rfl)) bt)
  (aw (b8 (ds1:=[0,1,0,0]) rfl (ca (K:=K) rfl (ac (i:=2) rfl (.inl rfl) rfl rfl rfl)) (aY (i:=3) (ds':=[0,1,0,0]) nd rfl (.inl rfl) rfl (by decide) (by decide) (.inl rfl)) (ai (bB (ds2:=[0,1,0,0]) (oq (ds0:=[0,0,0,0]) (qpt (ck (pW (ww hr) (ac (i:=3) rfl (.inl rfl) rfl rfl rfl) (ac (i:=1) rfl (.inl rfl) rfl rfl rfl) (by with_unfolding_all rfl)) (de (bo jG (ac (i:=3) rfl (.inl rfl) rfl rfl rfl) (kX eW hr rfl rfl) (by with_unfolding_all rfl))))) rfl) (aw (aD br rfl)) bt)
  (aw (mZ (i:=1) (ww hr) rfl (.inl rfl) (aj (d':=0) br (by decide)) (ac (i:=3) rfl (.inl rfl) rfl rfl rfl) rfl rfl rfl rfl))) PassesOwn.never (fun _=>rfl)))) PassesOwn.never (fun _=>rfl))
  (aw (aD (kY (ds0:=[0,0,0,0]) (fN eA (aB (p5 (K:=K) rfl) rfl T.len0 (by decide +kernel) (aa (ac (i:=1) rfl (.inl rfl) rfl rfl rfl) af rfl) rfl (by decide) rfl rfl rfl) ag (bF _)) rfl) rfl)))))
abbrev cp:Stmt:=top 19
abbrev c7:List Str:=["_law_pen_here", "_law_tongue_here", "_law_at", "_law_kind", "_law_spare", "_law_some", "_law_found"]
theorem sc_law_bent:FnScope c7 ["_law_pen_here", "_law_tongue_here"] (ay cp):=⟨rfl,rfl,rfl,by decide +kernel,rfl,by decide +kernel,by decide +kernel⟩
def dY:MT:=(tV (e2 gJ (ae 0) (eM joinD (eC (.str "")) (ad (ae 1) ah))))
def eh:ME:=(ae 0)
def eg:ME:=(e2 gq (e2 gq (eSl eF (ae 1) aN (az (ae 2))) (a5 (ad (ae 0) ah))) (eSl eF (ae 1) (az (e2 bi (ae 2) (eC (.int 1)))) aN))
def ef:ME:=(e2 gq (ae 1) (a5 (ad (ae 0) ah)))
def fZ:MS:=(au (aC 2 (aO F_law_draw (bx 0 (ad (eN bp (ad (ae 1) ah)) ah))))
 (au (aC 3 (e2 ixA (ae 1) (ae 2)))
 (au (aC 4 (e2 ixA (eLC true (cJ (aO aX (bx 0 (ad (eC (.int 13)) ah)))) (gN 0) dY eh [none,some 1]) (eC (.int 0))))
 (au (aC 5 (aZ (ad (eC (.str "")) (ad (e2 bi (ae 3) (eSl aV (ae 3) aN (az (eC (.int 1))))) (ad (e2 bi (ae 3) (ae 4)) (ad (ae 4) (ad (e2 bi (ae 4) (eSl aV (ae 3) (az (eC (.int 1))) aN)) (ad (e2 bi (eSl aV (ae 3) aN (az (e1 da (eC (.int 1))))) (eC (.str " "))) (ad (e2 bi (ae 3) (eC (.str "\n"))) (ad (eC (.str " ")) (ad (eC (.str "\n")) ah)))))))))))
 (au (aC 5 (e2 cx (ae 5) (aZ (ad (eC .none) (ad (eC (.int 7)) (ad (eC (.bool true)) (ad (aZ (ad (ae 3) ah)) (ad (a5 (ad (ae 3) ah)) (ad (eN bR (ad (ae 3) ah)) (ad dH (ad (e2 ixA (ae 1) (eC (.int 0))) (ad (eSl aV (e2 ixA (ae 1) (e1 da (eC (.int 1)))) aN (az (eC (.int 1)))) (ad (e2 fE (ae 3) (e1 da (eC (.int 1)))) ah)))))))))))))
 (au (aC 6 (eLC true (cJ (ae 5)) (gN 0) cY eg [none,some 1,some 2]))
 (au (aC 6 (e2 cx (ae 6) (eLC true (cJ (aZ (ad (eC (.str "")) (ad (ae 4) (ad (eSl aV (ae 3) (az (e1 da (eC (.int 1)))) aN) (ad (eC .none) (ad (a5 ah) ah))))))) (gN 0) cY ef [none,some 1])))
 (au (aC 6 (e2 cx (ae 6) (aZ (ad (ae 1) (ad (eN bR (ad (ae 1) ah)) (ad (eM joinD (eC (.str "")) (ad (ae 1) ah)) (ad (dU (ae 1) (eC (.bool true))) (ad (e2 gI (ae 1) (e1 da (eC (.int 1)))) (ad (eSl eF (ae 1) aN (az (eC (.int 1)))) (ad (eSl eF (ae 1) (az (eC (.int 1))) aN) ah))))))))))
 (aR (e2 cx (ae 6) (aZ (ad (e2 gq (ae 1) (ae 1)) (ad (a5 (ad (ae 1) ah)) (ad (aZ (ad (ae 1) ah)) (ad (a5 (ad (eN bR (ad (ae 1) ah)) ah)) (ad (ae 3) (ad (eN bR (ad (ae 3) ah)) ah)))))))))))))))))
def cr:List D→Option (D × En):=fnF 5 [1,0] fZ
theorem lA {k:Nat} (T:Bl mg)  (bT:Kn P w K mg base k "_law_draw" ["_law_pen_here", "_law_many"] (spF K [1,0] 0 F_law_draw)) (ce:Kn P w K mg base k "_law_unlike" ["_law_pen_here", "_law_many"] (spF K [1,0] 1 aX)) (F:Fun K "_law_bent" "_law_bent" cp f fd):FnOk P w K mg base CX0 (k+1) f fd ["_law_pen_here", "_law_tongue_here"] (spF K [1,0] 1 cr):=by
 have nd:=sc_law_bent.nd
 refine F.okQ (N:=c7) (b:=fZ) (J:=⟨[0],[1,0,0,0,0,0,0],1,[]⟩) (ds0:=[1,0,0,0,0,0,0]) sc_law_bent rfl rfl rfl rfl fun cdv A outer s H E hr=>?_
 exact (ai (ap (i:=2) (d:=0) (ds':=[1,0,0,0,0,0,0]) nd rfl (.inr rfl) (bC bT hr rfl (bg (i:=0) rfl (.inl rfl) (aa (aj (d':=0) (aB (bH (K:=K) rfl) rfl T.len0 (by decide +kernel) (aa (ac (i:=1) rfl (.inr (.inl rfl)) rfl rfl rfl) af rfl) rfl (by decide) rfl rfl rfl) (by decide)) af rfl) rfl rfl) rfl rfl rfl rfl) rfl (by decide) (by decide) rfl (.inl rfl))
  (ai (ap (i:=3) (d:=0) (ds':=[1,0,0,0,0,0,0]) nd rfl (.inl rfl) (a8 (gL (K:=K) rfl) (ac (i:=1) rfl (.inr (.inl rfl)) rfl rfl rfl) (ac (i:=2) rfl (.inr (.inl rfl)) rfl rfl rfl) (fun _ _=>rfl)) rfl (by decide) (by decide) rfl (.inl rfl))
  (ai (ap (i:=4) (d:=0) (ds':=[1,0,0,0,0,0,0]) nd rfl (.inl rfl) (a8 (gL (K:=K) rfl) (gP (cd:=0) (d:=1) (dsi:=[0,0]) (lk:=[1]) (BlkOkC.of (ns:=["_law_sign", "_law_tongue_here"]) (js:=[none,some 1]) (N0:=c7) (sc0:=ay cp) rfl rfl (by decide +kernel)) rfl (ca (K:=K) rfl (aj (d':=0) (bC ce hr rfl (bg (i:=0) rfl (.inl rfl) (aa (aj (d':=0) ag (by decide)) af rfl) rfl rfl) rfl rfl rfl rfl) (by decide))) (fun _ _ _ _ _=>(aY (i:=0) (ds':=[0,0]) (show (["_law_sign", "_law_tongue_here"]:List Str).Nodup by decide +kernel) rfl (.inl rfl) rfl (by decide) (by decide) (.inr rfl))) (fun _ _ _ _ _=>(oo (bo jG (ac (i:=0) rfl (.inl rfl) rfl rfl rfl) (dq (K:=K) rfl PySem.F.slot_str_join PySem.F.type_str_join (fc rfl) fm a6 (aa (ac (i:=1) rfl (.inr (.inl rfl)) rfl rfl rfl) af rfl) rfl rfl rfl rfl rfl rfl) (by with_unfolding_all rfl)))) (fun _ _ _ _ _=>(ac (i:=0) rfl (.inl rfl) rfl rfl rfl)) rfl rfl (by decide) rfl (fun _=>rfl)) ag (fun _ _=>rfl)) rfl (by decide) (by decide) rfl (.inl rfl))
  (ai (ap (i:=5) (d:=0) (ds':=[1,0,0,0,0,0,0]) nd rfl (.inl rfl) (aj (d':=0) (aU (d:=1) (c:=0) (aa a6 (aa (aq bI (ac (i:=3) rfl (.inl rfl) rfl rfl rfl) (ao aL (ac (i:=3) rfl (.inl rfl) rfl rfl rfl) aE (am ag))) (aa (aq bI (ac (i:=3) rfl (.inl rfl) rfl rfl rfl) (ac (i:=4) rfl (.inl rfl) rfl rfl rfl)) (aa (ac (i:=4) rfl (.inl rfl) rfl rfl rfl) (aa (aq bI (ac (i:=4) rfl (.inl rfl) rfl rfl rfl) (ao aL (ac (i:=3) rfl (.inl rfl) rfl rfl rfl) (am ag) aE)) (aa (aq bI (ao aL (ac (i:=3) rfl (.inl rfl) rfl rfl rfl) aE (am (dL fh ag))) a6) (aa (aq bI (ac (i:=3) rfl (.inl rfl) rfl rfl rfl) a6) (aa a6 (aa a6 af rfl) rfl) rfl) rfl) rfl) rfl) rfl) rfl) rfl) rfl rfl (by decide)) (by decide)) rfl (by decide) (by decide) rfl (.inl rfl))
  (ai (ap (i:=5) (d:=0) (ds':=[1,0,0,0,0,0,0]) nd rfl (.inl rfl) (aj (d':=0) (aq (cm (K:=K) rfl) (ac (i:=5) rfl (.inl rfl) rfl rfl rfl) (aU (d:=1) (c:=0) (aa ib (aa ag (aa br (aa (aU (d:=1) (c:=0) (aa (ac (i:=3) rfl (.inl rfl) rfl rfl rfl) af rfl) rfl rfl (by decide)) (aa (aI (d:=0) (c:=0) (aa (ac (i:=3) rfl (.inl rfl) rfl rfl rfl) af rfl) rfl rfl) (aa (bz (fj (K:=K) rfl rfl) rfl T.list0 (by decide +kernel) (aa (ac (i:=3) rfl (.inl rfl) rfl rfl rfl) af rfl) rfl (by decide) rfl rfl rfl) (aa gk (aa (a8 (gL (K:=K) rfl) (ac (i:=1) rfl (.inr (.inl rfl)) rfl rfl rfl) ag (fun _ _=>rfl)) (aa (ao aL (a8 (gL (K:=K) rfl) (ac (i:=1) rfl (.inr (.inl rfl)) rfl rfl rfl) (dL fh ag) (fun _ _=>rfl)) aE (am ag)) (aa (jH (ac (i:=3) rfl (.inl rfl) rfl rfl rfl) (dL fh ag)) af rfl) rfl) rfl) rfl) rfl) rfl) rfl) rfl) rfl) rfl) rfl rfl (by decide))) (by decide)) rfl (by decide) (by decide) rfl (.inl rfl))
  (ai (oB (ds1:=[1,0,0,0,0,0,0]) (lD (i:=6) (ds':=[1,0,0,0,0,0,1]) (cd:=0) (d:=1) (dsi:=[0,0,0]) (lk:=[1,2]) nd rfl rfl (BlkOkC.of (ns:=["_law_one", "_law_tongue_here", "_law_at"]) (js:=[none,some 1,some 2]) (N0:=c7) (sc0:=ay cp) rfl rfl (by decide +kernel)) rfl (ca (K:=K) rfl (ac (i:=5) rfl (.inl rfl) rfl rfl rfl)) (fun _ _ _ _ _=>(aY (i:=0) (ds':=[0,0,0]) (show (["_law_one", "_law_tongue_here", "_law_at"]:List Str).Nodup by decide +kernel) rfl (.inl rfl) rfl (by decide) (by decide) (.inr rfl))) (fun _ _ _ _ _=>dk) (fun _ _ _ _ _=>(aq (gM (K:=K) rfl) (aq (gM (K:=K) rfl) (ao (gO (K:=K) rfl) (ac (i:=1) rfl (.inr (.inl rfl)) rfl rfl rfl) aE (am (ac (i:=2) rfl (.inr (.inl rfl)) rfl rfl rfl))) (aI (d:=0) (c:=0) (aa (ac (i:=0) rfl (.inl rfl) rfl rfl rfl) af rfl) rfl rfl)) (ao (gO (K:=K) rfl) (ac (i:=1) rfl (.inr (.inl rfl)) rfl rfl rfl) (am (aq bI (ac (i:=2) rfl (.inr (.inl rfl)) rfl rfl rfl) ag)) aE))) rfl rfl rfl (by decide) rfl (by decide) (by decide) rfl (fun _=>rfl)) rfl)
  (ai (ap (i:=6) (d:=0) (ds':=[1,0,0,0,0,0,0]) nd rfl (.inl rfl) (aj (d':=0) (aq (cm (K:=K) rfl) (ac (i:=6) rfl (.inl rfl) rfl rfl rfl) (gP (cd:=0) (d:=1) (dsi:=[0,0]) (lk:=[1]) (BlkOkC.of (ns:=["_law_one", "_law_tongue_here"]) (js:=[none,some 1]) (N0:=c7) (sc0:=ay cp) rfl rfl (by decide +kernel)) rfl (ca (K:=K) rfl (aj (d':=0) (aU (d:=1) (c:=0) (aa a6 (aa (ac (i:=4) rfl (.inl rfl) rfl rfl rfl) (aa (ao aL (ac (i:=3) rfl (.inl rfl) rfl rfl rfl) (am (dL fh ag)) aE) (aa ib (aa (aI (d:=3) (c:=3) af rfl rfl) af rfl) rfl) rfl) rfl) rfl) rfl rfl (by decide)) (by decide))) (fun _ _ _ _ _=>(aY (i:=0) (ds':=[0,0]) (show (["_law_one", "_law_tongue_here"]:List Str).Nodup by decide +kernel) rfl (.inl rfl) rfl (by decide) (by decide) (.inr rfl))) (fun _ _ _ _ _=>dk) (fun _ _ _ _ _=>(aq (gM (K:=K) rfl) (ac (i:=1) rfl (.inr (.inl rfl)) rfl rfl rfl) (aI (d:=0) (c:=0) (aa (ac (i:=0) rfl (.inl rfl) rfl rfl rfl) af rfl) rfl rfl))) rfl rfl (by decide) rfl (fun _=>rfl))) (by decide)) rfl (by decide) (by decide) rfl (.inl rfl))
  (ai (ap (i:=6) (d:=0) (ds':=[1,0,0,0,0,0,0]) nd rfl (.inl rfl) (aj (d':=0) (aq (cm (K:=K) rfl) (ac (i:=6) rfl (.inl rfl) rfl rfl rfl) (aU (d:=1) (c:=0) (aa (ac (i:=1) rfl (.inr (.inl rfl)) rfl rfl rfl) (aa (bz (fj (K:=K) rfl rfl) rfl T.list0 (by decide +kernel) (aa (ac (i:=1) rfl (.inr (.inl rfl)) rfl rfl rfl) af rfl) rfl (by decide) rfl rfl rfl) (aa (dq (K:=K) rfl PySem.F.slot_str_join PySem.F.type_str_join (fc rfl) fm a6 (aa (ac (i:=1) rfl (.inr (.inl rfl)) rfl rfl rfl) af rfl) rfl rfl rfl rfl rfl rfl) (aa (m7 hr.units (ac (i:=1) rfl (.inr (.inl rfl)) rfl rfl rfl) br) (aa (oG (K:=K) rfl (ac (i:=1) rfl (.inr (.inl rfl)) rfl rfl rfl) (dL fh ag)) (aa (ao (gO (K:=K) rfl) (ac (i:=1) rfl (.inr (.inl rfl)) rfl rfl rfl) aE (am ag)) (aa (ao (gO (K:=K) rfl) (ac (i:=1) rfl (.inr (.inl rfl)) rfl rfl rfl) (am ag) aE) af rfl) rfl) rfl) rfl) rfl) rfl) rfl) rfl rfl (by decide))) (by decide)) rfl (by decide) (by decide) rfl (.inl rfl))
  (aw (aD (aq (cm (K:=K) rfl) (ac (i:=6) rfl (.inl rfl) rfl rfl rfl) (aU (d:=1) (c:=0) (aa (aq (gM (K:=K) rfl) (ac (i:=1) rfl (.inr (.inl rfl)) rfl rfl rfl) (ac (i:=1) rfl (.inr (.inl rfl)) rfl rfl rfl)) (aa (aI (d:=0) (c:=0) (aa (ac (i:=1) rfl (.inr (.inl rfl)) rfl rfl rfl) af rfl) rfl rfl) (aa (aU (d:=1) (c:=0) (aa (ac (i:=1) rfl (.inr (.inl rfl)) rfl rfl rfl) af rfl) rfl rfl (by decide)) (aa (aI (d:=2) (c:=1) (aa (bz (fj (K:=K) rfl rfl) rfl T.list0 (by decide +kernel) (aa (ac (i:=1) rfl (.inr (.inl rfl)) rfl rfl rfl) af rfl) rfl (by decide) rfl rfl rfl) af rfl) rfl rfl) (aa (ac (i:=3) rfl (.inl rfl) rfl rfl rfl) (aa (bz (fj (K:=K) rfl rfl) rfl T.list0 (by decide +kernel) (aa (ac (i:=3) rfl (.inl rfl) rfl rfl rfl) af rfl) rfl (by decide) rfl rfl rfl) af rfl) rfl) rfl) rfl) rfl) rfl) rfl rfl (by decide))) rfl))))))))))
abbrev eT:Stmt:=top 20
abbrev hE:List Str:=["_law_pen_here", "_law_row", "_law_found"]
theorem sc_law_sized:FnScope hE ["_law_pen_here"] (ay eT):=⟨rfl,rfl,rfl,by decide +kernel,rfl,by decide +kernel,by decide +kernel⟩
def eZ:MS:=(au (aC 1 (eM joinD (eC (.str "")) (ad (aO aX (bx 0 (ad (eC (.int 24)) ah))) ah)))
 (au (aC 2 (aZ (ad (a5 (ad (eSl aV (ae 1) aN (az (eC (.int 6)))) (ad (eSl aV (ae 1) (az (eC (.int 6))) (az (eC (.int 12)))) ah))) (ad (a5 (ad (eSl aV (ae 1) aN (az (eC (.int 6)))) (ad (eSl aV (ae 1) (az (eC (.int 6))) (az (eC (.int 12)))) (ad (e2 ixT (ae 1) (eC (.int 12))) ah)))) (ad (a5 (ad (eSl aV (ae 1) aN (az (eC (.int 7)))) ah)) (ad (a5 (ad (eSl aV (ae 1) aN (az (eC (.int 6)))) ah)) (ad (a5 (ad (eSl aV (ae 1) aN (az (eC (.int 7)))) (ad (eSl aV (ae 1) (az (eC (.int 7))) (az (eC (.int 9)))) ah))) ah)))))))
 (au (aC 2 (e2 cx (ae 2) (aZ (ad (a5 (ad (eSl aV (ae 1) aN (az (eC (.int 3)))) (ad (eSl aV (ae 1) (az (eC (.int 3))) (az (eC (.int 6)))) (ad (eSl aV (ae 1) (az (eC (.int 6))) (az (eC (.int 9)))) (ad (eSl aV (ae 1) (az (eC (.int 9))) (az (eC (.int 12)))) ah))))) (ad (a5 (ad (eSl aV (ae 1) aN (az (eC (.int 3)))) (ad (eSl aV (ae 1) (az (eC (.int 3))) (az (eC (.int 6)))) (ad (eSl aV (ae 1) (az (eC (.int 6))) (az (eC (.int 9)))) (ad (eSl aV (ae 1) (az (eC (.int 9))) (az (eC (.int 13)))) ah))))) ah)))))
 (au (aC 2 (e2 cx (ae 2) (aZ (ad (a5 (ad (e2 ixT (ae 1) (eC (.int 0))) (ad (e2 ixT (ae 1) (eC (.int 1))) (ad (e2 ixT (ae 1) (eC (.int 2))) (ad (e2 ixT (ae 1) (eC (.int 3))) ah))))) (ad (a5 (ad (e2 ixT (ae 1) (eC (.int 0))) (ad (e2 ixT (ae 1) (eC (.int 1))) (ad (e2 ixT (ae 1) (eC (.int 2))) (ad (e2 ixT (ae 1) (eC (.int 3))) (ad (e2 ixT (ae 1) (eC (.int 4))) ah)))))) (ad (a5 (ad (e2 ixT (ae 1) (eC (.int 0))) ah)) ah))))))
 (aR (e2 cx (ae 2) (aZ (ad (eN j5 (ad (eSl aV (ae 1) aN (az (eC (.int 4)))) ah)) (ad (eN j5 (ad (eSl aV (ae 1) aN (az (eC (.int 5)))) ah)) (ad (a5 (ad (eSl aV (ae 1) aN (az (eC (.int 6)))) (ad (e2 fE (eSl aV (ae 1) (az (eC (.int 6))) (az (eC (.int 12)))) (e1 da (eC (.int 1)))) ah))) (ad (a5 (ad (eSl aV (ae 1) aN (az (eC (.int 6)))) (ad (eSl aV (ae 1) (az (eC (.int 5))) (az (eC (.int 11)))) ah))) (ad (a5 (ad (e2 pE (eSl aV (ae 1) aN (az (eC (.int 2)))) (eC (.int 3))) ah)) ah))))))))))))
def bX:List D→Option (D × En):=fnF 2 [1] eZ
theorem kz {k:Nat} (T:Bl mg)  (ce:Kn P w K mg base k "_law_unlike" ["_law_pen_here", "_law_many"] (spF K [1,0] 1 aX)) (F:Fun K "_law_sized" "_law_sized" eT f fd):FnOk P w K mg base CX0 (k+1) f fd ["_law_pen_here"] (spF K [1] 1 bX):=by
 have nd:=sc_law_sized.nd
 refine F.okQ (N:=hE) (b:=eZ) (J:=⟨[0],[1,0,0],1,[]⟩) (ds0:=[1,0,0]) sc_law_sized rfl rfl rfl rfl fun cdv A outer s H E hr=>?_
 exact (ai (ap (i:=1) (d:=0) (ds':=[1,0,0]) nd rfl (.inl rfl) (aj (d':=0) (dq (K:=K) rfl PySem.F.slot_str_join PySem.F.type_str_join (fc rfl) fm a6 (aa (aj (d':=0) (bC ce hr rfl (bg (i:=0) rfl (.inl rfl) (aa (aj (d':=0) ag (by decide)) af rfl) rfl rfl) rfl rfl rfl rfl) (by decide)) af rfl) rfl rfl rfl rfl rfl rfl) (by decide)) rfl (by decide) (by decide) rfl (.inl rfl))
  (ai (ap (i:=2) (d:=0) (ds':=[1,0,0]) nd rfl (.inl rfl) (aj (d':=0) (aU (d:=3) (c:=3) (aa (aI (d:=3) (c:=3) (aa (ao aL (ac (i:=1) rfl (.inl rfl) rfl rfl rfl) aE (am ag)) (aa (ao aL (ac (i:=1) rfl (.inl rfl) rfl rfl rfl) (am ag) (am ag)) af rfl) rfl) rfl rfl) (aa (aI (d:=3) (c:=3) (aa (ao aL (ac (i:=1) rfl (.inl rfl) rfl rfl rfl) aE (am ag)) (aa (ao aL (ac (i:=1) rfl (.inl rfl) rfl rfl rfl) (am ag) (am ag)) (aa (a8 b9 (ac (i:=1) rfl (.inl rfl) rfl rfl rfl) ag (fun _ _=>rfl)) af rfl) rfl) rfl) rfl rfl) (aa (aI (d:=3) (c:=3) (aa (ao aL (ac (i:=1) rfl (.inl rfl) rfl rfl rfl) aE (am ag)) af rfl) rfl rfl) (aa (aI (d:=3) (c:=3) (aa (ao aL (ac (i:=1) rfl (.inl rfl) rfl rfl rfl) aE (am ag)) af rfl) rfl rfl) (aa (aI (d:=3) (c:=3) (aa (ao aL (ac (i:=1) rfl (.inl rfl) rfl rfl rfl) aE (am ag)) (aa (ao aL (ac (i:=1) rfl (.inl rfl) rfl rfl rfl) (am ag) (am ag)) af rfl) rfl) rfl rfl) af rfl) rfl) rfl) rfl) rfl) rfl rfl (by decide)) (by decide)) rfl (by decide) (by decide) rfl (.inl rfl))
  (ai (ap (i:=2) (d:=0) (ds':=[1,0,0]) nd rfl (.inl rfl) (aj (d':=0) (aq (cm (K:=K) rfl) (ac (i:=2) rfl (.inl rfl) rfl rfl rfl) (aU (d:=3) (c:=3) (aa (aI (d:=3) (c:=3) (aa (ao aL (ac (i:=1) rfl (.inl rfl) rfl rfl rfl) aE (am ag)) (aa (ao aL (ac (i:=1) rfl (.inl rfl) rfl rfl rfl) (am ag) (am ag)) (aa (ao aL (ac (i:=1) rfl (.inl rfl) rfl rfl rfl) (am ag) (am ag)) (aa (ao aL (ac (i:=1) rfl (.inl rfl) rfl rfl rfl) (am ag) (am ag)) af rfl) rfl) rfl) rfl) rfl rfl) (aa (aI (d:=3) (c:=3) (aa (ao aL (ac (i:=1) rfl (.inl rfl) rfl rfl rfl) aE (am ag)) (aa (ao aL (ac (i:=1) rfl (.inl rfl) rfl rfl rfl) (am ag) (am ag)) (aa (ao aL (ac (i:=1) rfl (.inl rfl) rfl rfl rfl) (am ag) (am ag)) (aa (ao aL (ac (i:=1) rfl (.inl rfl) rfl rfl rfl) (am ag) (am ag)) af rfl) rfl) rfl) rfl) rfl rfl) af rfl) rfl) rfl rfl (by decide))) (by decide)) rfl (by decide) (by decide) rfl (.inl rfl))
  (ai (ap (i:=2) (d:=0) (ds':=[1,0,0]) nd rfl (.inl rfl) (aj (d':=0) (aq (cm (K:=K) rfl) (ac (i:=2) rfl (.inl rfl) rfl rfl rfl) (aU (d:=3) (c:=3) (aa (aI (d:=3) (c:=3) (aa (a8 b9 (ac (i:=1) rfl (.inl rfl) rfl rfl rfl) ag (fun _ _=>rfl)) (aa (a8 b9 (ac (i:=1) rfl (.inl rfl) rfl rfl rfl) ag (fun _ _=>rfl)) (aa (a8 b9 (ac (i:=1) rfl (.inl rfl) rfl rfl rfl) ag (fun _ _=>rfl)) (aa (a8 b9 (ac (i:=1) rfl (.inl rfl) rfl rfl rfl) ag (fun _ _=>rfl)) af rfl) rfl) rfl) rfl) rfl rfl) (aa (aI (d:=3) (c:=3) (aa (a8 b9 (ac (i:=1) rfl (.inl rfl) rfl rfl rfl) ag (fun _ _=>rfl)) (aa (a8 b9 (ac (i:=1) rfl (.inl rfl) rfl rfl rfl) ag (fun _ _=>rfl)) (aa (a8 b9 (ac (i:=1) rfl (.inl rfl) rfl rfl rfl) ag (fun _ _=>rfl)) (aa (a8 b9 (ac (i:=1) rfl (.inl rfl) rfl rfl rfl) ag (fun _ _=>rfl)) (aa (a8 b9 (ac (i:=1) rfl (.inl rfl) rfl rfl rfl) ag (fun _ _=>rfl)) af rfl) rfl) rfl) rfl) rfl) rfl rfl) (aa (aI (d:=3) (c:=3) (aa (a8 b9 (ac (i:=1) rfl (.inl rfl) rfl rfl rfl) ag (fun _ _=>rfl)) af rfl) rfl rfl) af rfl) rfl) rfl) rfl rfl (by decide))) (by decide)) rfl (by decide) (by decide) rfl (.inl rfl))
  (aw (aD (aq (cm (K:=K) rfl) (ac (i:=2) rfl (.inl rfl) rfl rfl rfl) (aU (d:=1) (c:=0) (aa (bz (l7 (K:=K) rfl rfl) rfl T.tuple0 (by decide +kernel) (aa (aj (d':=0) (ao aL (ac (i:=1) rfl (.inl rfl) rfl rfl rfl) aE (am ag)) (by decide)) af rfl) rfl (by decide) rfl rfl rfl) (aa (bz (l7 (K:=K) rfl rfl) rfl T.tuple0 (by decide +kernel) (aa (aj (d':=0) (ao aL (ac (i:=1) rfl (.inl rfl) rfl rfl rfl) aE (am ag)) (by decide)) af rfl) rfl (by decide) rfl rfl rfl) (aa (aI (d:=3) (c:=3) (aa (ao aL (ac (i:=1) rfl (.inl rfl) rfl rfl rfl) aE (am ag)) (aa (jH (ao aL (ac (i:=1) rfl (.inl rfl) rfl rfl rfl) (am ag) (am ag)) (dL fh ag)) af rfl) rfl) rfl rfl) (aa (aI (d:=3) (c:=3) (aa (ao aL (ac (i:=1) rfl (.inl rfl) rfl rfl rfl) aE (am ag)) (aa (ao aL (ac (i:=1) rfl (.inl rfl) rfl rfl rfl) (am ag) (am ag)) af rfl) rfl) rfl rfl) (aa (aI (d:=3) (c:=3) (aa (aq xC (ao aL (ac (i:=1) rfl (.inl rfl) rfl rfl rfl) aE (am ag)) ag) af rfl) rfl rfl) af rfl) rfl) rfl) rfl) rfl) rfl rfl (by decide))) rfl))))))
abbrev fT:Stmt:=top 21
abbrev je:List Str:=["_law_thing", "_law_shown", "_law_due", "_law_turn", "_law_found"]
theorem sc_law_told:FnScope je ["_law_thing"] (ay fT):=⟨rfl,rfl,rfl,by decide +kernel,rfl,by decide +kernel,by decide +kernel⟩
def gy:MS:=(au (aC 4 (aO bU (ad (ae 0) ah)))
 (sIf (bOr (cU (tV (e1 (aH "bool") (ae 4)))) (bOr (tV (e2 neD (ae 4) (ae 2))) (tV (e2 neD (eN iB (ad (ae 0) ah)) (ae 1))))) (aR (eC (.bool false))) bQ))
def fY:MS:=(au (aC 1 (eN iB (ad (ae 0) ah)))
 (au (aC 2 (aO bj (ad (ae 0) ah)))
 (au (dw (cT (ad (eC (.int 2)) ah)) (gN 3) gy)
 (aR (eC (.bool true))))))
def cq:List D→Option (D × En):=fnF 4 [0] fY
theorem lx {k:Nat} (T:Bl mg)  (jg:Kn P w K mg base k "_law_is_tongue" ["_law_thing"] (spF K [0] 3 bj)) (nj:Kn P w K mg base k "is_tongue" ["thing"] (spF K [0] 3 bU)) (F:Fun K "_law_told" "_law_told" fT f fd):FnOk P w K mg base CX0 (k+1) f fd ["_law_thing"] (spF K [0] 3 cq):=by
 have nd:=sc_law_told.nd
 refine F.okQ (N:=je) (b:=fY) (J:=⟨[],[0,0,0,0,0],3,[]⟩) (ds0:=[0,0,0,0,0]) sc_law_told rfl rfl rfl rfl fun cdv A outer s H E hr=>?_
 exact (ai (ap (i:=1) (d:=0) (ds':=[0,0,0,0,0]) nd rfl (.inl rfl) (aj (d':=0) (aB (kT (K:=K) rfl hr.gd hr.units) rfl T.repr0 (by decide +kernel) (aa (ac (i:=0) rfl (.inl rfl) rfl rfl rfl) af rfl) rfl (by decide) rfl rfl rfl) (by decide)) rfl (by decide) (by decide) rfl (.inl rfl))
  (ai (ap (i:=2) (d:=0) (ds':=[0,0,0,0,0]) nd rfl (.inl rfl) (aj (d':=0) (cO jg hr rfl (aa (ac (i:=0) rfl (.inl rfl) rfl rfl rfl) af rfl) rfl rfl rfl rfl rfl) (by decide)) rfl (by decide) (by decide) rfl (.inl rfl))
  (ai (b8 (ds1:=[0,0,0,0,0]) rfl (dm rfl T.range0 (aa (aj (d':=0) ag (by decide)) af rfl) rfl) (aY (i:=3) (ds':=[0,0,0,0,0]) nd rfl (.inl rfl) rfl (by decide) (by decide) (.inl rfl)) (ai (ap (i:=4) (d:=0) (ds':=[0,0,0,0,0]) nd rfl (.inl rfl) (aj (d':=0) (cO nj hr rfl (aa (ac (i:=0) rfl (.inl rfl) rfl rfl rfl) af rfl) rfl rfl rfl rfl rfl) (by decide)) rfl (by decide) (by decide) rfl (.inl rfl))
  (aw (bB (ds2:=[0,0,0,0,0]) (qpt (ck (bG (b7 (dS (K:=K) (n:="bool") rfl rfl T.isinstance0 rfl T.bool0 (by decide +kernel) (by decide) (ac (i:=4) rfl (.inl rfl) rfl rfl rfl) (by decide) rfl rfl rfl rfl) (fun _=>rfl))) (ck (bo (m4 (K:=K) rfl hr.units) (ac (i:=4) rfl (.inl rfl) rfl rfl rfl) (ac (i:=2) rfl (.inl rfl) rfl rfl rfl) (bF _)) (de (bo (m4 (K:=K) rfl hr.units) (aB (kT (K:=K) rfl hr.gd hr.units) rfl T.repr0 (by decide +kernel) (aa (ac (i:=0) rfl (.inl rfl) rfl rfl rfl) af rfl) rfl (by decide) rfl rfl rfl) (ac (i:=1) rfl (.inl rfl) rfl rfl rfl) (bF _)))))) (aw (aD br rfl)) bt))) PassesOwn.never (fun _=>rfl))
  (aw (aD br rfl)))))
abbrev im:Stmt:=top 22
abbrev B6:List Str:=["_law_script", "_law_turn", "_law_pen_here", "_law_tongue_here", "_law_deep", "_law_k", "_law_some", "_law_thing"]
theorem sclaw:FnScope B6 ["_law_script"] (ay im):=⟨rfl,rfl,rfl,by decide +kernel,rfl,by decide +kernel,by decide +kernel⟩
def oX:MS:=(aC 4 (a5 (ad (ae 4) ah)))
def lr:MS:=(sIf (cU (tV (aO cq (ad (ae 7) ah)))) (aR (eC (.bool false))) bQ)
def oW:MS:=(au (aC 2 (aO F_law_pen (ad (ae 0) (ad (ae 1) ah))))
 (au (aC 3 (aO bN (bx 2 ah)))
 (au (aC 4 (ae 3))
 (au (dw (cT (ad (eC (.int 25)) ah)) (gN 5) oX)
 (au (aC 6 (e2 cx (e2 cx (aO cr (bx 2 (ad (ae 3) ah))) (aO bX (bx 2 ah))) (aZ (ad (ae 4) (ad (a5 ah) (ad (aZ ah) (ad dH (ad (eC .none) (ad (eC (.bool true)) (ad (eC (.bool false)) (ad (eC (.int 0)) (ad (eC (.int 1)) (ad (eC (.str "")) (ad (eC (.str "ab")) (ad (a5 (ad (a5 ah) ah)) ah)))))))))))))))
 (dw (cJ (ae 6)) (gN 7) lr))))))
def qA:MS:=(au (dw (cT (ad (eC (.int 3)) ah)) (gN 1) oW)
 (aR (eC (.bool true))))
def nq:List D→Option (D × En):=fnF 7 [0] qA
theorem Cn {k:Nat} (T:Bl mg)  (oZ:Kn P w K mg base k "_law_pen" ["_law_script", "_law_k"] (spF K [0,0] 3 F_law_pen)) (ls:Kn P w K mg base k "_law_tongue" ["_law_pen_here"] (spF K [1] 0 bN)) (np:Kn P w K mg base k "_law_bent" ["_law_pen_here", "_law_tongue_here"] (spF K [1,0] 1 cr)) (lH:Kn P w K mg base k "_law_sized" ["_law_pen_here"] (spF K [1] 1 bX)) (nk:Kn P w K mg base k "_law_told" ["_law_thing"] (spF K [0] 3 cq)) (F:Fun K "law" "law" im f fd):FnOk P w K mg base CX0 (k+1) f fd ["_law_script"] (spF K [0] 3 nq):=by
 have nd:=sclaw.nd
 refine F.okQ (N:=B6) (b:=qA) (J:=⟨[],[0,0,0,0,0,0,0,0],3,[]⟩) (ds0:=[0,0,0,0,0,0,0,0]) sclaw rfl rfl rfl rfl fun cdv A outer s H E hr=>?_
 exact (ai (b8 (ds1:=[0,0,0,0,0,0,0,0]) rfl (dm rfl T.range0 (aa (aj (d':=0) ag (by decide)) af rfl) rfl) (aY (i:=1) (ds':=[0,0,0,0,0,0,0,0]) nd rfl (.inl rfl) rfl (by decide) (by decide) (.inl rfl)) (ou (ds2:=[0,0,1,0,0,0,0,0]) (ai (ap (i:=2) (d:=1) (ds':=[0,0,1,0,0,0,0,0]) nd rfl (.inl rfl) (aj (d':=1) (cO oZ hr rfl (aa (ac (i:=0) rfl (.inl rfl) rfl rfl rfl) (aa (ac (i:=1) rfl (.inl rfl) rfl rfl rfl) af rfl) rfl) rfl rfl rfl rfl rfl) (by decide)) rfl (by decide) (by decide) rfl (.inl rfl))
  (ai (ap (i:=3) (d:=0) (ds':=[0,0,1,0,0,0,0,0]) nd rfl (.inl rfl) (bC ls hr rfl (bg (i:=2) rfl (.inl rfl) af rfl rfl) rfl rfl rfl rfl) rfl (by decide) (by decide) rfl (.inl rfl))
  (ai (ap (i:=4) (d:=0) (ds':=[0,0,1,0,0,0,0,0]) nd rfl (.inl rfl) (ac (i:=3) rfl (.inl rfl) rfl rfl rfl) rfl (by decide) (by decide) rfl (.inl rfl))
  (ai (b8 (ds1:=[0,0,1,0,0,0,0,0]) rfl (dm rfl T.range0 (aa (aj (d':=0) ag (by decide)) af rfl) rfl) (aY (i:=5) (ds':=[0,0,1,0,0,0,0,0]) nd rfl (.inl rfl) rfl (by decide) (by decide) (.inl rfl)) (aw (ap (i:=4) (d:=0) (ds':=[0,0,1,0,0,0,0,0]) nd rfl (.inl rfl) (aI (d:=0) (c:=0) (aa (ac (i:=4) rfl (.inl rfl) rfl rfl rfl) af rfl) rfl rfl) rfl (by decide) (by decide) rfl (.inl rfl))) PassesOwn.never (fun _=>rfl))
  (ai (ap (i:=6) (d:=0) (ds':=[0,0,1,0,0,0,0,0]) nd rfl (.inl rfl) (aj (d':=0) (aq (cm (K:=K) rfl) (aq (cm (K:=K) rfl) (bC np hr rfl (bg (i:=2) rfl (.inl rfl) (aa (ac (i:=3) rfl (.inl rfl) rfl rfl rfl) af rfl) rfl rfl) rfl rfl rfl rfl) (bC lH hr rfl (bg (i:=2) rfl (.inl rfl) af rfl rfl) rfl rfl rfl rfl)) (aU (d:=1) (c:=0) (aa (ac (i:=4) rfl (.inl rfl) rfl rfl rfl) (aa (aI (d:=3) (c:=3) af rfl rfl) (aa (aU (d:=3) (c:=3) af rfl rfl (by decide)) (aa gk (aa ib (aa br (aa br (aa ag (aa ag (aa a6 (aa a6 (aa (aI (d:=3) (c:=3) (aa (aI (d:=3) (c:=3) af rfl rfl) af rfl) rfl rfl) af rfl) rfl) rfl) rfl) rfl) rfl) rfl) rfl) rfl) rfl) rfl) rfl) rfl rfl (by decide))) (by decide)) rfl (by decide) (by decide) rfl (.inl rfl))
  (aw (b8 (ds1:=[0,0,1,0,0,0,0,0]) rfl (ca (K:=K) rfl (ac (i:=6) rfl (.inl rfl) rfl rfl rfl)) (aY (i:=7) (ds':=[0,0,1,0,0,0,0,0]) nd rfl (.inl rfl) rfl (by decide) (by decide) (.inl rfl)) (aw (bB (ds2:=[0,0,1,0,0,0,0,0]) (bG (b7 (cO nk hr rfl (aa (ac (i:=7) rfl (.inl rfl) rfl rfl rfl) af rfl) rfl rfl rfl rfl rfl) (fun _=>rfl))) (aw (aD br rfl)) bt)) PassesOwn.never (fun _=>rfl)))))))) rfl) PassesOwn.never (fun _=>rfl))
  (aw (aD br rfl)))
end
end W01
set_option maxHeartbeats 1000000
namespace W01
open PySem L2 Tg Pen3
theorem jK {α:Type} (f:α→Bool):∀ l:List α,dM (l.map fun a=>.bool (f a))=some (l.map f)
 | []=>rfl
 | a :: l=>by
  show (dM (l.map fun a=>.bool (f a))).map (f a :: ·)=_
  rw [jK f l]
  rfl
theorem all_map {α:Type} (f:α→Bool) (l:List α):ik [.list (l.map fun a=>.bool (f a))]=some (.bool (l.all f)):=by
 show (dM _).map _=_
 rw [jK]
 show some (PyData.bool ((l.map f).all id))=_
 rw [List.all_map]
 rfl
theorem ia (f:Nat→Str):∀ n x,(x∈bc f n↔∃ i,i < n∧f i=x)
 | 0,x=>by simp [bc]
 | n+1,x=>by
  have ih:=ia f n
  rw [er]
  by_cases q:(bc f n).any (· == f n)=true
  ·rw [if_pos q,ih]
   constructor
   ·rintro ⟨i,h,e⟩; exact ⟨i,by omega,e⟩
   ·rintro ⟨i,h,e⟩
    by_cases hi:i=n
    ·subst hi
     obtain ⟨y,hy,e2⟩:=List.any_eq_true.mp q
     have e3:y=f i:=by simpa using e2
     rw [← e,← e3]
     exact (ih y).mp hy
    ·exact ⟨i,by omega,e⟩
  ·rw [if_neg q,List.mem_append,ih,List.mem_singleton]
   constructor
   ·rintro (⟨i,h,e⟩ | e)
    ·exact ⟨i,by omega,e⟩
    ·exact ⟨n,by omega,e.symm⟩
   ·rintro ⟨i,h,e⟩
    by_cases hi:i=n
    ·subst hi; exact .inr e.symm
    ·exact .inl ⟨i,by omega,e⟩
theorem jD (f:Nat→Str):∀ n,((bc f n).length=n↔((List.range n).map f).Nodup)
 | 0=>by simp [bc]
 | n+1=>by
  have ih:=jD f n
  have le:=gK f n
  rw [kC,List.range_succ,List.map_append,List.nodup_append]
  by_cases q:(bc f n).any (· == f n)=true
  ·rw [if_pos q]
   constructor
   ·intro h; omega
   ·rintro ⟨_,_,h⟩
    obtain ⟨y,hy,e2⟩:=List.any_eq_true.mp q
    have e3:y=f n:=by simpa using e2
    obtain ⟨i,hi,e⟩:=(ia f n y).mp hy
    exact absurd (e.trans e3) (h (f i) (List.mem_map.mpr ⟨i,List.mem_range.mpr hi,rfl⟩) (f n) (by simp))
  ·rw [if_neg q]
   constructor
   ·intro h
    refine ⟨ih.mp (by omega),by simp,fun a ha b hb e=>q ?_⟩
    obtain ⟨i,hi,rfl⟩:=List.mem_map.mp ha
    have hb':b=f n:=by simpa using hb
    refine List.any_eq_true.mpr ⟨f i,(ia f n _).mpr ⟨i,List.mem_range.mp hi,rfl⟩,?_⟩
    rw [e,hb']
    exact beq_self_eq_true _
   ·rintro ⟨h,_,_⟩
    have:=ih.mpr h
    omega
def kv (c:Nat):D × D:=(s1 c,.bool true)
theorem n8 (a b:Nat):kEq (s1 a) (s1 b)=decide (a=b):=by
 show (mk1 a == mk1 b)=_
 by_cases h:a=b
 ·subst h
  rw [decide_eq_true rfl]
  exact beq_self_eq_true _
 ·rw [decide_eq_false h]
  exact beq_eq_false_iff_ne.mpr fun z=>h (jm z)
theorem oU (c:Nat):∀ A:List Nat,(A.map kv).any (fun q=>kEq q.1 (s1 c))=decide (c∈A)
 | []=>rfl
 | a :: A=>by
  rw [List.map_cons,List.any_cons,oU c A]
  show (kEq (s1 a) (s1 c) || decide (c∈A))=_
  rw [n8,Bool.eq_iff_iff,Bool.or_eq_true,decide_eq_true_iff,decide_eq_true_iff,decide_eq_true_iff,List.mem_cons]
  exact ⟨fun h=>h.imp Eq.symm id,fun h=>h.imp Eq.symm id⟩
theorem lT (c:Nat):∀ A:List Nat,(bK (A.map kv) (s1 c)).isSome=decide (c∈A)
 | []=>rfl
 | a :: A=>by
  show (Option.map _ (List.find? _ (kv a :: A.map kv))).isSome=_
  rw [List.find?_cons]
  have h1:kEq (kv a).1 (s1 c)=decide (a=c):=n8 a c
  have ih:=lT c A
  by_cases h:a=c
  ·rw [h1,decide_eq_true h]
   show true=_
   exact (decide_eq_true (List.mem_cons.mpr (.inl h.symm))).symm
  ·rw [h1,decide_eq_false h]
   show (bK (A.map kv) (s1 c)).isSome=_
   rw [ih,Bool.eq_iff_iff,decide_eq_true_iff,decide_eq_true_iff,List.mem_cons]
   exact ⟨.inr,fun z=>z.elim (fun z=>absurd z.symm h) id⟩
theorem AB {c:Nat} {A:List Nat} (h:c ∉ A):gm (A.map kv) (s1 c) (.bool true)=(A++[c]).map kv:=by
 unfold gm
 rw [oU,decide_eq_false h]
 show A.map kv++[(s1 c,.bool true)]=_
 rw [List.map_append]
 rfl
def a9 (c:Nat):Bool:=decide (c∈li ev)
theorem BR:∀ c,c < 127→33≤c→c≠37→c∈li ev:=by
 have h:∀ c:Fin 127,33≤c.1→c.1≠37→c.1∈li ev:=by decide +kernel
 exact fun c h1=>h ⟨c,h1⟩
def bv:D→Bool
 | .str z=>decide (1≤(li z).length) && (decide ((li z).length≤6) && (li z).all a9)
 | _=>false
def sg:D→List Nat
 | .str z=>li z
 | _=>[]
def sgL (ts:List D):List Nat:=(ts.map sg).flatten
def isT:D→Bool
 | .tuple ts=>decide (1≤ts.length) && (decide (ts.length≤4) && (ts.all bv && (decide ((sgL ts).length≤12) && decide (sgL ts).Nodup)))
 | _=>false
def Sm (t:D):Prop:=∀ ts,t=.tuple ts→ts.length≤1000∧∀ z,.str z∈ts→z.length≤1000
theorem wG (c:Nat):W (cL [s1 c]) (fun r=>r=(.bool (a9 c),[none])):=by
 by_cases h3:c=37
 ·subst h3
  have q:a9 37=false:=by decide +kernel
  rw [q]
  exact W.of (show cL [s1 37]=some (.bool false,[none]) from rfl) rfl
 have e:mC [.str (mk1 c)]=some (.int (c:Nat)):=rfl
 simp only [cL,iq,ws,e]
 have q:a9 c=(decide (33≤c) && (decide (c≤126) && decide (c≠37))):=by
  unfold a9
  rw [Bool.eq_iff_iff]
  simp only [Bool.and_eq_true,decide_eq_true_eq]
  constructor
  ·exact fun h=>fq c h
  ·exact fun h=>BR c (by omega) h.1 h.2.2
 rw [q]
 by_cases h1:33≤c
 ·by_cases h2:c≤126
  ·have a1:(33:Int)≤(c:Nat):=by omega
   have a2:((c:Nat):Int)≤126:=by omega
   have a3:¬ ((c:Nat):Int)=37:=by omega
   simp only [ws,a1,a2,a3,h1,h2,h3]
   simp [h1,h2,h3]
  ·have a1:(33:Int)≤(c:Nat):=by omega
   have a2:¬ ((c:Nat):Int)≤126:=by omega
   simp only [ws,a1,a2]
   simp [h2]
 ·have a1:¬ (33:Int)≤(c:Nat):=by omega
  simp only [ws,a1]
  simp [h1]
theorem xa {u:D} (hu:∀ z,u=.str z→z.length≤1000):W (cM [u]) (fun r=>r=(.bool (bv u),[none])):=by
 cases u with
 | str z =>
  have hl:(li z).length=z.length:=Array.length_toList
  have hz:=hu z rfl
  simp only [cM,fX,ws]
  by_cases h1:1≤(li z).length
  ·by_cases h2:(li z).length≤6
   ·have a:(1:Int)≤(z.length:Nat):=by omega
    have b:((z.length:Nat):Int)≤6:=by omega
    simp only [ws,a,b]
    refine ⟨sz (by omega),?_⟩
    have e0:bP z=(li z).map s1:=rfl
    rw [e0]
    refine lm (fun t=>.bool ((sg t).all a9)) (by rw [List.length_map]; exact sz (by omega)) (fun t ht=>?_) fun o'=>?_
    ·obtain ⟨c,hc,rfl⟩:=List.mem_map.mp ht
     simp only [jh,ws]
     refine W.use (wG c) ?_
     rintro _ rfl
     simp only [ws]
     show (_,_)=(PyData.bool ([c].all a9),_)
     simp
    ·have e:=all_map (fun t:D=>(sg t).all a9) ((li z).map s1)
     simp only [ws,e]
     have q:((li z).map s1).all (fun t=>(sg t).all a9)=(li z).all a9:=by
      rw [List.all_map]
      congr 1
      funext c
      show [c].all a9=a9 c
      simp
     rw [q,show bv (.str z)=(decide (1≤(li z).length) && (decide ((li z).length≤6) && (li z).all a9)) from rfl,decide_eq_true h1,decide_eq_true h2,Bool.true_and,Bool.true_and]
   ·have a:(1:Int)≤(z.length:Nat):=by omega
    have b:¬ ((z.length:Nat):Int)≤6:=by omega
    simp only [ws,a,b]
    exact ⟨sz (by omega),by rw [show bv (.str z)=(decide (1≤(li z).length) && (decide ((li z).length≤6) && (li z).all a9)) from rfl,decide_eq_false h2,Bool.false_and,Bool.and_false]⟩
  ·have a:¬ (1:Int)≤(z.length:Nat):=by omega
   simp only [ws,a]
   exact ⟨sz (by omega),by rw [show bv (.str z)=(decide (1≤(li z).length) && (decide ((li z).length≤6) && (li z).all a9)) from rfl,decide_eq_false h1,Bool.false_and]⟩
 | _=>simp only [cM,fX,ws,bv]
theorem nE (z:Str):(List.range z.length).map (bZ z)=(li z).map mk1:=by
 have hl:(li z).length=z.length:=Array.length_toList
 apply List.ext_getElem
 ·rw [List.length_map,List.length_range,List.length_map,hl]
 ·intro i h1 h2
  rw [List.getElem_map,List.getElem_range,List.getElem_map]
  have hi:i < (li z).length:=by rw [List.length_map] at h2; exact h2
  have e:z.cps[i]?=some (li z)[i]:=by
   rw [← Array.getElem?_toList]
   exact List.getElem?_eq_getElem hi
  unfold bZ
  rw [e]
theorem jm {a b:Nat} (h:mk1 a=mk1 b):a=b:=by
 have h2:[a]=[b]:=congrArg li h
 exact (List.cons.inj h2).1
theorem nu {z:Str} (hz:z.length≤1000):W (bW [.str z]) (fun r=>r=(.bool (decide (li z).Nodup),[none])):=by
 have e2:decide (((bc (bZ z) z.length).length:Int)=(z.length:Int))=decide (li z).Nodup:=by
  have h:=jD (bZ z) z.length
  rw [nE] at h
  have h2:((li z).map mk1).Nodup↔(li z).Nodup:=by
   rw [List.Nodup,List.Nodup,List.pairwise_map]
   exact ⟨fun h=>h.imp fun h e=>h (by rw [e]),fun h=>h.imp fun h e=>h (jm e)⟩
  rw [decide_eq_decide,← h2,← h]
  omega
 simp only [bW,eY,ws,e2]
 exact ⟨by omega,sz (by omega)⟩
theorem lK:∀ ts:List D,ts.all bv=true→∃ ks:List Str,ts=ks.map .str∧aM ks=sgL ts
 | [],_=>⟨[],rfl,rfl⟩
 | t :: ts,h=>by
  rw [List.all_cons,Bool.and_eq_true] at h
  obtain ⟨ks,e1,e2⟩:=lK ts h.2
  cases t with
  | str z =>
   refine ⟨z :: ks,by rw [e1]; rfl,?_⟩
   show li z++aM ks=li z++sgL ts
   rw [e2]
  | _=>cases h.1
theorem kq:∀ ts:List D,ts.all bv=true→(sgL ts).length≤6 * ts.length
 | [],_=>Nat.le_refl _
 | t :: ts,h=>by
  rw [List.all_cons,Bool.and_eq_true] at h
  have ih:=kq ts h.2
  cases t with
  | str z =>
   have h1:(decide (1≤(li z).length) && (decide ((li z).length≤6) && (li z).all a9))=true:=h.1
   simp only [Bool.and_eq_true,decide_eq_true_eq] at h1
   show (li z++sgL ts).length≤_
   rw [List.length_append,List.length_cons]
   omega
  | _=>cases h.1
theorem ny {t:D} (h:Sm t):W (bU [t]) (fun r=>r=(.bool (isT t),[none])):=by
 cases t with
 | tuple ts =>
  obtain ⟨l1,l2⟩:=h ts rfl
  simp only [bU,dJ,ws]
  by_cases h1:1≤ts.length
  ·by_cases h4:ts.length≤4
   ·have a:(1:Int)≤(ts.length:Nat):=by omega
    have b:((ts.length:Nat):Int)≤4:=by omega
    simp only [ws,a,b]
    refine lm (fun t=>.bool (bv t)) (sz (by omega)) (fun t ht=>?_) fun o'=>?_
    ·simp only [gz,ws]
     refine W.use (xa fun z e=>l2 z (by rw [← e]; exact ht)) ?_
     rintro _ rfl
     simp only [ws]
    ·have e:=all_map bv ts
     simp only [ws,e]
     have q:isT (.tuple ts)=(ts.all bv && (decide ((sgL ts).length≤12) && decide (sgL ts).Nodup)):=by
      show (decide (1≤ts.length) && (decide (ts.length≤4) && _))=_
      rw [decide_eq_true h1,decide_eq_true h4,Bool.true_and,Bool.true_and]
     rw [q]
     by_cases hk:ts.all bv=true
     ·obtain ⟨ks,e1,e2⟩:=lK ts hk
      have le:=kq ts hk
      have al:(aM ks).length≤24:=by rw [e2]; omega
      have kl:ks.length≤4:=by rw [e1,List.length_map] at h4; exact h4
      have ej:joinD "" [.tuple ts]=some (.str (ofL (aM ks))):=by rw [e1]; exact (gj (by omega) (by omega)).1
      have lz:(ofL (aM ks)).length=(aM ks).length:=w6 _
      simp only [ws,hk,du,gB,ej]
      by_cases h12:(sgL ts).length≤12
      ·have c:((ofL (aM ks)).length:Int)≤12:=by rw [lz,e2]; omega
       simp only [ws,c]
       refine ⟨sz (by omega),?_⟩
       refine W.use (nu (z:=ofL (aM ks)) (by omega)) ?_
       rintro _ rfl
       simp only [ws,decide_eq_true h12,Bool.true_and]
       rw [mI,e2]
      ·have c:¬ ((ofL (aM ks)).length:Int)≤12:=by rw [lz,e2]; omega
       simp only [ws,c,decide_eq_false h12,Bool.false_and,Bool.and_false]
       exact sz (by omega)
     ·have hk':ts.all bv=false:=by simpa using hk
      simp only [ws,hk',Bool.false_and]
   ·have a:(1:Int)≤(ts.length:Nat):=by omega
    have b:¬ ((ts.length:Nat):Int)≤4:=by omega
    simp only [ws,a,b]
    show _=(PyData.bool (decide (1≤ts.length) && (decide (ts.length≤4) && _)),_)
    rw [decide_eq_false h4,Bool.false_and,Bool.and_false]
  ·have a:¬ (1:Int)≤(ts.length:Nat):=by omega
   simp only [ws,a]
   show _=(PyData.bool (decide (1≤ts.length) && _),_)
   rw [decide_eq_false h1,Bool.false_and]
 | _=>simp only [bU,dJ,ws,isT]
end W01
namespace W01
open PySem L2 Tg Pen3
def fC (cs:List Nat):D:=.dict (cs.map kv)
theorem nO:∀ cs:List Nat,noT (cs.map kv)=true
 | []=>rfl
 | _ :: _=>rfl
theorem BW (c:Nat) (cs:List Nat):dIn (s1 c) (fC cs)=some (.bool (decide (c∈cs))):=by
 show (if noT (cs.map kv)=true then (kOf (s1 c)).map (fun _=>PyData.bool (bK (cs.map kv) (s1 c)).isSome) else none)=_
 rw [if_pos (nO cs),lT]
 rfl
theorem k4:W (bA []) (fun r=>r=(.str ev,[])):=by
 simp only [bA,e7,ws]
 exact ⟨xQ,rfl⟩
theorem l6 {l:List Nat} {c:Nat}:[c] <:+: l↔c∈l:=by
 constructor
 ·rintro ⟨a,b,rfl⟩
  simp
 ·intro h
  obtain ⟨a,b,rfl⟩:=List.append_of_mem h
  exact ⟨a,b,by simp⟩
theorem Cq (c:Nat):cS ev (mk1 c)=a9 c:=by
 unfold a9
 rw [Bool.eq_iff_iff,oh,decide_eq_true_iff]
 exact l6
theorem Ci {c:Nat} {cs:List Nat} (h:c ∉ cs) (hl:cs.length < 1000) {x0 x2:Option D} :
  gE 1 (ae 3) (eC (.bool true)) [x0,some (fC cs),x2,some (s1 c)]=some (.nx [x0,some (fC (cs++[c])),x2,some (s1 c)]):=by
 show (if (cs.map kv).length < sizeLine then some (Fl.nx [x0,some (.dict (gm (cs.map kv) (s1 c) (.bool true))),x2,some (s1 c)]) else none)=_
 rw [if_pos (by rw [List.length_map]; exact szl hl),AB h]
 rfl
theorem pT {zs cs:List Nat} (hl:cs.length+zs.length≤900) {x0 x2 x3:Option D} {Q:Fl→Prop} (hyes:(cs++zs).Nodup→zs.all a9=true→∀ x3,Q (.nx [x0,some (fC (cs++zs)),x2,x3]))
  (hno:(cs.Nodup→¬ ((cs++zs).Nodup∧zs.all a9=true))→∀ d x3,Q (.rt (.bool false) [x0,d,x2,x3])) (hc:cs.Nodup) :
  W (bY (gN 3) cz (zs.map s1) [x0,some (fC cs),x2,x3]) Q:=by
 induction zs generalizing cs x3 with
 | nil =>
  simp only [List.map_nil,ws]
  have:=hyes (by rw [List.append_nil]; exact hc) rfl x3
  rwa [List.append_nil] at this
 | cons z zs ih =>
  simp only [List.map_cons,ws,cz,BW]
  by_cases hz:z∈cs
  ·simp only [ws,hz]
   refine hno (fun _ h=>?_) _ _
   exact (List.nodup_append.mp h.1).2.2 z hz z (List.mem_cons_self ..) rfl
  ·simp only [ws,hz]
   refine W.use k4 ?_
   rintro _ rfl
   simp only [ws,Cq]
   by_cases hk:a9 z=true
   ·simp only [ws,hk]
    refine W.of (Ci hz (by omega)) ?_
    simp only [ws]
    have hc':(cs++[z]).Nodup:=by
     rw [List.nodup_append]
     exact ⟨hc,by simp,fun a ha b hb e=>hz (by rw [← List.mem_singleton.mp hb,← e]; exact ha)⟩
    refine ih (by rw [List.length_append]; simp only [List.length_cons,List.length_nil] at *; omega) (fun h1 h2 x3=>?_) (fun h d x3=>hno (fun _ g=>h hc' ?_) d x3) hc'
    ·rw [List.append_assoc] at h1
     have:=hyes h1 (by rw [List.all_cons,hk,h2]; rfl) x3
     rw [List.append_assoc]
     exact this
    ·rw [List.append_assoc]
     exact ⟨g.1,by have:=g.2; rw [List.all_cons,hk,Bool.true_and] at this; exact this⟩
   ·have hk':a9 z=false:=by simpa using hk
    simp only [ws,hk']
    refine hno (fun _ h=>?_) _ _
    have:=h.2
    rw [List.all_cons,hk',Bool.false_and] at this
    cases this
theorem ko (us:List D) (t:D):sgL (us++[t])=sgL us++sg t:=by
 unfold sgL
 rw [List.map_append,List.flatten_append]
 simp
theorem jy {α:Type} {ts:List α} {i:Nat} {t:α} (h:ts[i]?=some t):ts.take (i+1)=ts.take i++[t]:=by
 rw [List.take_succ,h]
 rfl
theorem qv {ts:List D} {i:Nat} {f:D→Bool} (h:ts.all f=true):(ts.take i).all f=true:=by
 rw [List.all_eq_true] at *
 exact fun x hx=>h x (List.mem_of_mem_take hx)
theorem Bg {ts:List D} {i:Nat} (h:¬ ((ts.take i).all bv=true∧(sgL (ts.take i)).Nodup)):isT (.tuple ts)=false:=by
 show (decide (1≤ts.length) && (decide (ts.length≤4) && (ts.all bv && (decide ((sgL ts).length≤12) && decide (sgL ts).Nodup))))=false
 cases hk:ts.all bv with
 | false=>simp
 | true =>
  have hn:¬ (sgL ts).Nodup:=fun hn=>h ⟨qv hk,by
   have e:sgL ts=sgL (ts.take i)++sgL (ts.drop i):=by
    unfold sgL
    rw [← List.flatten_append,← List.map_append,List.take_append_drop]
   rw [e] at hn
   exact (List.nodup_append.mp hn).1⟩
  rw [decide_eq_false hn]
  simp
theorem A2 {t:D} (h:Sm t):W (bj [t]) (fun r=>r=(.bool (isT t),[none])):=by
 cases t with
 | tuple ts =>
  obtain ⟨l1,l2⟩:=h ts rfl
  simp only [bj,b6,ws,dH]
  by_cases h1:(ts.length:Int)=0
  ·simp only [ws,h1]
   have e:ts=[]:=List.length_eq_zero_iff.mp (by omega)
   rw [e]
   rfl
  ·by_cases h4:(4:Int) < (ts.length:Nat)
   ·simp only [ws,h1,h4]
    show _=(PyData.bool (decide (1≤ts.length) && (decide (ts.length≤4) && _)),_)
    rw [decide_eq_false (show ¬ ts.length≤4 by omega),Bool.false_and,Bool.and_false]
   ·simp only [ws,h1,h4]
    refine kb (fun i en=>∃ x2 x3,en=[some (.tuple ts),some (fC (sgL (ts.take i))),x2,x3]∧(ts.take i).all bv=true∧(sgL (ts.take i)).Nodup) ⟨_,_,rfl,rfl,List.nodup_nil⟩ (fun i t en ht hI=>?_) fun en hI=>?_
    ·obtain ⟨x2,x3,rfl,k1,k2⟩:=hI
     have hi:i < ts.length:=(List.getElem?_eq_some_iff.mp ht).1
     have es:=jy ht
     have no:(bv t=true→¬ (sgL (ts.take i)++sg t).Nodup)→isT (.tuple ts)=false:=fun q=>Bg (i:=i+1) fun ⟨g1,g2⟩=>by
      rw [es,List.all_append,Bool.and_eq_true] at g1
      rw [es,ko] at g2
      exact q (by simpa using g1.2) g2
     cases t with
     | str z =>
      have hz:=l2 z (List.mem_of_getElem? ht)
      have hl:(li z).length=z.length:=Array.length_toList
      simp only [ws,cy]
      by_cases a:((z.length:Nat):Int)=0
      ·simp only [ws,a]
       refine ⟨sz (by omega),?_⟩
       rw [no fun q=>by
        have q':(decide (1≤(li z).length) && _)=true:=q
        rw [decide_eq_false (show ¬ 1≤(li z).length by omega),Bool.false_and] at q'
        cases q']
      ·by_cases b:(6:Int) < (z.length:Nat)
       ·simp only [ws,a,b]
        refine ⟨sz (by omega),?_⟩
        rw [no fun q=>by
         have q':(decide (1≤(li z).length) && (decide ((li z).length≤6) && _))=true:=q
         rw [decide_eq_false (show ¬ (li z).length≤6 by omega),Bool.false_and,Bool.and_false] at q'
         cases q']
        exact ⟨sz (by omega),rfl⟩
       ·simp only [ws,a,b]
        refine ⟨sz (by omega),sz (by omega),?_⟩
        have e0:bP z=(li z).map s1:=rfl
        rw [e0]
        have lk:=kq (ts.take i) k1
        have lt:(ts.take i).length≤4:=by rw [List.length_take]; omega
        refine pT (cs:=sgL (ts.take i)) (by omega) (fun g1 g2 x3=>?_) (fun g d x3=>?_) k2
        ·simp only [ws]
         rw [es,ko]
         refine ⟨_,_,rfl,?_,g1⟩
         rw [List.all_append,k1]
         have:bv (.str z)=true:=by
          show (decide (1≤(li z).length) && (decide ((li z).length≤6) && (li z).all a9))=true
          rw [decide_eq_true (show 1≤(li z).length by omega),decide_eq_true (show (li z).length≤6 by omega),g2]
          rfl
         simp [this]
        ·simp only [ws]
         rw [no fun q n=>g k2 ⟨n,by
          have q':(decide (1≤(li z).length) && (decide ((li z).length≤6) && (li z).all a9))=true:=q
          simp only [Bool.and_eq_true] at q'
          exact q'.2.2⟩]
     | _ =>
      simp only [ws,cy]
      rw [no fun q=>by cases q]
    ·obtain ⟨x2,x3,rfl,k1,k2⟩:=hI
     rw [List.take_length] at k1 k2 ⊢
     have e:mJ [fC (sgL ts)]=some (.int ((sgL ts).length:Nat)):=by
      show grd (noT ((sgL ts).map kv)=true) (PyData.int (((sgL ts).map kv).length:Nat))=_
      rw [List.length_map]
      exact if_pos (nO _)
     simp only [ws,e]
     have q:isT (.tuple ts)=decide ((sgL ts).length≤12):=by
      show (decide (1≤ts.length) && (decide (ts.length≤4) && (ts.all bv && (decide ((sgL ts).length≤12) && decide (sgL ts).Nodup))))=_
      rw [decide_eq_true (show 1≤ts.length by omega),decide_eq_true (show ts.length≤4 by omega),k1,decide_eq_true k2]
      simp
     rw [q,show decide (((sgL ts).length:Int)≤12)=decide ((sgL ts).length≤12) from decide_eq_decide.mpr (by omega)]
 | _=>simp only [bj,b6,ws,isT]
end W01
namespace W01
open PySem L2 Tg Pen3
def Ft (d b:Nat) (t:D):Prop:=t.showable=true∧t.depth≤d∧t.leavesShort 1921=true∧t.bulk≤b
theorem Ft.mono {d d' b b':Nat} {t:D} (h:Ft d b t) (hd:d≤d') (hb:b≤b'):Ft d' b' t:=⟨h.1,Nat.le_trans h.2.1 hd,h.2.2.1,Nat.le_trans h.2.2.2 hb⟩
theorem Ft.rep {t:D} (h:Ft 60 8000 t):∃ z,iB [t]=some (.str z):=by
 obtain ⟨h1,h2,h3,h4⟩:=h
 refine ⟨t.shown,if_pos ⟨h1,h2,Nat.le_trans (PyData.shown_le_bulk 1921 (by decide) t h3) ?_⟩⟩
 exact Nat.le_trans (show (1921+2) * t.bulk+1921≤15500000 by omega) (by decide)
theorem Ft.all {d b:Nat}:∀ ts:List D,(∀ t∈ts,Ft d b t)→PyData.showableAll ts=true∧PyData.depthAll ts≤d∧PyData.leavesShortAll 1921 ts=true∧PyData.bulkAll ts≤ts.length * (b+1)
 | [],_=>by simp [PyData.showableAll,PyData.depthAll,PyData.leavesShortAll,PyData.bulkAll]
 | t :: ts,h=>by
  obtain ⟨a1,a2,a3,a4⟩:=h t (List.mem_cons_self ..)
  obtain ⟨b1,b2,b3,b4⟩:=Ft.all ts fun u hu=>h u (List.mem_cons_of_mem _ hu)
  refine ⟨?_,?_,?_,?_⟩
  ·rw [PyData.showableAll,a1,b1]; rfl
  ·rw [PyData.depthAll]; exact Nat.max_le.mpr ⟨a2,b2⟩
  ·rw [PyData.leavesShortAll,a3,b3]; rfl
  ·rw [PyData.bulkAll,List.length_cons,Nat.succ_mul]; omega
theorem Ft.list {d b L:Nat} {ts:List D} (hl:ts.length≤L) (h:∀ t∈ts,Ft d b t):Ft (d+1) (L * (b+1)) (.list ts):=by
 obtain ⟨b1,b2,b3,b4⟩:=Ft.all ts h
 refine ⟨?_,?_,?_,?_⟩
 ·rw [PyData.showable,b1]
 ·rw [PyData.depth]; omega
 ·rw [PyData.leavesShort,b3]
 ·rw [PyData.bulk]; exact Nat.le_trans b4 (Nat.mul_le_mul_right _ hl)
theorem Ft.tup {d b L:Nat} {ts:List D} (hl:ts.length≤L) (h:∀ t∈ts,Ft d b t):Ft (d+1) (L * (b+1)) (.tuple ts):=by
 obtain ⟨b1,b2,b3,b4⟩:=Ft.all ts h
 refine ⟨?_,?_,?_,?_⟩
 ·rw [PyData.showable,b1]
 ·rw [PyData.depth]; omega
 ·rw [PyData.leavesShort,b3]
 ·rw [PyData.bulk]; exact Nat.le_trans b4 (Nat.mul_le_mul_right _ hl)
theorem Ft.int {i:Int} (h:i.natAbs < 2 ^ 1920):Ft 0 0 (.int i):=by
 have l:i.natAbs.log2 < 1920:=by
  by_cases z:i.natAbs=0
  ·rw [z]; decide
  ·exact (Nat.log2_lt z).mpr h
 refine ⟨?_,?_,?_,?_⟩
 ·rw [PyData.showable]; exact decide_eq_true l
 ·rw [PyData.depth]; exact Nat.le_refl _
 ·rw [PyData.leavesShort,PyData.shown]; exact decide_eq_true (PyProof.Rows.int_text_len_1921 l)
 ·rw [PyData.bulk]; exact Nat.le_refl _
theorem Ft.bool {b:Bool}:Ft 0 0 (.bool b):=by
 refine ⟨?_,?_,?_,?_⟩ <;> simp [PyData.showable,PyData.depth,PyData.leavesShort,PyData.bulk]
theorem Ft.none:Ft 0 0 .none:=by
 refine ⟨?_,?_,?_,?_⟩ <;> simp [PyData.showable,PyData.depth,PyData.leavesShort,PyData.bulk]
theorem Ft.str {z:Str} {n:Nat} (hc:∀ c∈z.cps.toList,c < 16 ^ 8) (hl:z.cps.size≤n):Ft 0 n (.str z):=by
 refine ⟨?_,?_,?_,?_⟩
 ·simp [PyData.showable]
 ·rw [PyData.depth]; exact Nat.le_refl _
 ·rw [PyData.leavesShort]; exact List.all_eq_true.mpr fun c h=>decide_eq_true (hc c h)
 ·rw [PyData.bulk]; exact hl
def Good (t:D):Prop:=Ft 60 8000 t∧Sm t
theorem wB {t:D} (h:Good t):W (cq [t]) (fun r=>r=(.bool true,[none])):=by
 obtain ⟨z,hz⟩:=h.1.rep
 simp only [cq,fY,ws,hz]
 refine W.use (A2 h.2) ?_
 rintro _ rfl
 simp only [ws]
 refine ⟨by decide,?_⟩
 refine lp (fun en=>∃ x3 x4,en=[some t,some (.str z),some (.bool (isT t)),x3,x4]) ⟨_,_,rfl⟩ (fun u hu en hJ=>?_) fun en hJ=>?_
 ·obtain ⟨x3,x4,rfl⟩:=hJ
  simp only [ws,gy]
  refine W.use (ny h.2) ?_
  rintro _ rfl
  cases isT t <;> simp only [ws,hz] <;> exact ⟨_,_,rfl⟩
 ·obtain ⟨x3,x4,rfl⟩:=hJ
  simp only [ws]
theorem kf {p:D} {n:Nat} (hp:IsPen p) (hn:n≤93):W (aX [p,.int (n:Int)]) (fun r=>∃ (cs:List Nat) (p':D),r=(.list (cs.map s1),[some p',none])∧cs.length=n∧cs.Nodup∧(∀ c∈cs,c∈li ev)∧IsPen p'):=by
 have e0:bR [.str ev]=some (.list ((li ev).map s1)):=nR (z:=ev) (by rw [k5]; decide)
 simp only [aX,ei,ws]
 refine W.use k4 ?_
 rintro _ rfl
 simp only [ws,e0]
 refine ⟨by omega,B3 hp (by rw [gH,k5]; omega) (by rw [k5]; decide) fun cs lf o' p2 pm cl hp2=>?_⟩
 rw [gH] at cl
 have nd:=(pm.nodup_iff.mpr CT)
 simp only [ws]
 refine ⟨cs,p2,rfl,by omega,(List.nodup_append.mp nd).1,fun c hc=>pm.mem_iff.mp (List.mem_append_left _ hc),hp2⟩
end W01
namespace W01
open PySem L2 Tg Pen3
theorem Ck {mo r w:Int} (h1:1≤mo) (r0:0≤r) (r1:r < mo) (w0:0≤w):∃ z:Nat,atI [PyData.int 1,.int mo,.int (1+r)] (if w < 2 then w else 2)=some (.int (z:Int))∧1≤z∧(z:Int)≤mo:=by
 by_cases h0:w=0
 ·subst h0
  exact ⟨1,rfl,by omega,by omega⟩
 ·by_cases h2:w=1
  ·subst h2
   exact ⟨mo.toNat,by rw [Int.toNat_of_nonneg (by omega)]; rfl,by omega,by omega⟩
  ·rw [if_neg (by omega)]
   exact ⟨(1+r).toNat,by rw [Int.toNat_of_nonneg (by omega)]; rfl,by omega,by omega⟩
theorem nw {p:D} (hp:IsPen p):W (bN [p]) (fun r=>∃ ks p',r=(tD ks,[some p'])∧TOk ks∧IsPen p'):=by
 simp only [bN,ek,ws]
 refine gt hp (by decide) (by decide) fun r p1 r0 r1 hp1=>?_
 obtain ⟨N,hN⟩:∃ N:Nat,(1+r)=(N:Int):=⟨(1+r).toNat,by omega⟩
 simp only [ws,hN]
 refine gt hp1 (by decide) (by decide) fun w p2 w0 w1 hp2=>?_
 simp only [ws]
 refine W.use (kf (n:=12) hp2 (by decide)) ?_
 rintro _ ⟨cs,p3,rfl,cl,nd1,mem,hp3⟩
 simp only [ws]
 refine ⟨by omega,kb (fun i en=>∃ p left ks a b c,en=[some p,some (.int N),some (.int w),some (.list (left.map s1)),some (.list (ks.map .str)),a,b,c]∧IsPen p∧ks.length=i∧(aM ks++left).Nodup∧(∀ c∈aM ks++left,c∈li ev)∧(aM ks).length+left.length=12∧N≤left.length+i∧(∀ k∈ks,1≤(li k).length∧(li k).length≤6)) ⟨p3,cs,[],none,none,none,rfl,hp3,rfl,nd1,mem,by show 0+cs.length=12; omega,by omega,fun _ z=>by cases z⟩ ?_ ?_⟩
 ·rintro i t en ht ⟨p,left,ks,a,b,c,rfl,g1,g2,g3,g4,g5,g6,g7⟩
  obtain ⟨hi,rfl⟩:=lM ht
  have hi':i < N:=by simpa using hi
  simp only [ws,fw,gt_iff_lt]
  obtain ⟨mo,hmo⟩:∃ mo:Int,(if (left.length:Int) - ((N:Int) - 1 - (0+(i:Int))) < 6 then (left.length:Int) - ((N:Int) - 1 - (0+(i:Int))) else 6)=mo:=⟨_,rfl⟩
  have hm:1≤mo∧mo≤left.length∧mo≤(left.length:Int) - ((N:Int) - 1 - (i:Int))∧mo≤6:=by rw [← hmo]; split <;> omega
  rw [hmo]
  refine gt g1 (by omega) (by omega) fun r p1 r0 r1 hp1=>?_
  obtain ⟨z,hz,z1,z2⟩:=Ck (mo:=mo) (r:=r) (w:=w) hm.1 r0 r1 w0
  have zl:z≤left.length:=by omega
  have st:left.take z++left.drop z=left:=List.take_append_drop z left
  have tl:(left.take z).length=z:=by rw [List.length_take]; omega
  have dl:(left.drop z).length=left.length - z:=List.length_drop
  have al:aM (ks++[ofL (left.take z)])++left.drop z=aM ks++left:=by rw [jP,kG,List.append_assoc,st]
  simp only [ws,hz,gt_iff_lt,i5,i6,← List.map_take,← List.map_drop,lX (cs:=left.take z) (by omega)]
  refine ⟨szl (by omega),p1,left.drop z,ks++[ofL (left.take z)],_,_,_,by rw [List.map_append]; rfl,hp1,by rw [List.length_append,g2]; rfl,by rw [al]; exact g3,by rw [al]; exact g4,?_,by rw [dl]; omega,fun k hk=>?_⟩
  ·rw [jP,kG,List.length_append,tl,dl]
   omega
  ·rcases List.mem_append.mp hk with hk | hk
   ·exact g7 k hk
   ·rw [List.mem_singleton.mp hk,kG,tl]
    omega
 ·rintro en ⟨p,left,ks,a,b,c,rfl,g1,g2,g3,g4,g5,g6,g7⟩
  rw [gH] at g2 g6
  have g2:ks.length=N:=by simpa using g2
  simp only [ws]
  refine ⟨ks,p,rfl,⟨by omega,by omega,g7,(List.nodup_append.mp g3).1,by omega,?_,fun c hc=>g4 c (List.mem_append_left _ hc)⟩,g1⟩
  obtain ⟨k,kt,rfl⟩:∃ k kt,ks=k :: kt:=by
   cases ks with
   | nil=>simp at g2; omega
   | cons k kt=>exact ⟨k,kt,rfl⟩
  have:=(g7 k List.mem_cons_self).1
  show 1≤(li k++aM kt).length
  rw [List.length_append]
  omega
end W01
namespace W01
open PySem L2 Tg Pen3
def Tx (n:Nat) (z:Str):Prop:=(∀ c∈li z,c < 1000)∧(li z).length≤n
theorem Tx.len {n:Nat} {z:Str} (h:Tx n z):z.length≤n:=by rw [← Tg.len_li]; exact h.2
theorem Tx.mono {n m:Nat} {z:Str} (h:Tx n z) (hm:n≤m):Tx m z:=⟨h.1,Nat.le_trans h.2 hm⟩
theorem Tx.app {n m:Nat} {y z:Str} (h:Tx n y) (g:Tx m z):Tx (n+m) (y++z):=by
 have e:li (y++z)=li y++li z:=by
  show (y.cps++z.cps).toList=_
  simp
 refine ⟨fun c hc=>?_,?_⟩
 ·rw [e] at hc
  exact (List.mem_append.mp hc).elim (h.1 c) (g.1 c)
 ·rw [e,List.length_append]
  have:=h.2
  have:=g.2
  omega
theorem Tx.cut {n:Nat} {z:Str} (h:Tx n z) (lo hi:Option Int):Tx n ⟨(cw z.cps.toList lo hi).toArray⟩:=by
 refine ⟨fun c hc=>h.1 c ?_,?_⟩
 ·have hc':c∈cw z.cps.toList lo hi:=hc
  unfold cw at hc'
  exact List.mem_of_mem_drop (List.mem_of_mem_take hc')
 ·show (cw z.cps.toList lo hi).length≤n
  unfold cw
  rw [List.length_take,List.length_drop]
  have:=h.2
  have e:(li z).length=z.cps.toList.length:=rfl
  omega
theorem Tx.rev {n:Nat} {z:Str} (h:Tx n z):Tx n ⟨z.cps.toList.reverse.toArray⟩:=by
 refine ⟨fun c hc=>h.1 c ?_,?_⟩
 ·have hc':c∈z.cps.toList.reverse:=hc
  exact List.mem_reverse.mp hc'
 ·show z.cps.toList.reverse.length≤n
  rw [List.length_reverse]
  exact h.2
theorem Tx.mul3 {n:Nat} {z:Str} (h:Tx n z):Tx (n * 3) (Txt.mul z 3):=by
 unfold Txt.mul
 rw [if_neg (by decide)]
 split
 ·exact h.mono (by omega)
 ·show Tx _ ⟨((#[]++z.cps)++z.cps)++z.cps⟩
  have e:li ⟨((#[]++z.cps)++z.cps)++z.cps⟩=(li z++li z)++li z:=by
   show (((#[]++z.cps)++z.cps)++z.cps).toList=_
   simp
  refine ⟨fun c hc=>?_,?_⟩
  ·rw [e] at hc
   rcases List.mem_append.mp hc with hc | hc
   ·exact (List.mem_append.mp hc).elim (h.1 c) (h.1 c)
   ·exact h.1 c hc
  ·rw [e,List.length_append,List.length_append]
   have:=h.2
   omega
theorem Tx.one {c:Nat} (h:c < 1000):Tx 1 (mk1 c):=⟨fun d hd=>by
 have:d∈[c]:=hd
 rw [List.mem_singleton.mp this]; exact h,Nat.le_refl 1⟩
theorem Tx.ft {n:Nat} {z:Str} (h:Tx n z):Ft 0 n (.str z):=Ft.str (fun c hc=>Nat.lt_of_lt_of_le (h.1 c hc) (by decide)) (by rw [← Array.length_toList]; exact h.2)
def El (u:D):Prop:=Ft 3 400 u∧∀ z,u=.str z→z.length≤100
theorem El.tx {n:Nat} {z:Str} (h:Tx n z) (hn:n≤100):El (.str z):=⟨h.ft.mono (by decide) (by omega),fun y e=>by cases e; exact Nat.le_trans h.len hn⟩
theorem El.of {u:D} (h:Ft 3 400 u) (hn:∀ z,u≠.str z):El u:=⟨h,fun z e=>absurd e (hn z)⟩
theorem bh:∀ u∈([]:List D),El u:=fun _ h=>by cases h
theorem aA {a:D} {l:List D} (h:El a) (hs:∀ u∈l,El u):∀ u∈a :: l,El u:=fun u hu=>by
 rcases List.mem_cons.mp hu with rfl | hu
 ·exact h
 ·exact hs u hu
theorem i3 {l m:List D} (h:∀ u∈l,El u) (hs:∀ u∈m,El u):∀ u∈l++m,El u:=fun u hu=>(List.mem_append.mp hu).elim (h u) (hs u)
theorem Good.tup {ts:List D} (hl:ts.length≤15) (h:∀ u∈ts,El u):Good (.tuple ts) :=
 ⟨(Ft.tup hl fun u hu=>(h u hu).1).mono (by decide) (by decide),fun us e=>by
  cases e
  exact ⟨by omega,fun z hz=>Nat.le_trans ((h _ hz).2 z rfl) (by decide)⟩⟩
theorem Good.of {t:D} (h:Ft 60 8000 t) (hn:∀ ts,t≠.tuple ts):Good t:=⟨h,fun ts e=>absurd e (hn ts)⟩
theorem v7 {n:Nat} {z:Str} (h:Tx n z):∀ u∈bP z,Ft 0 1 u:=fun u hu=>by
 obtain ⟨c,hc,rfl⟩:=List.mem_map.mp (show u∈(li z).map s1 from hu)
 exact (Tx.one (h.1 c hc)).ft
theorem km (z:Str):(bP z).length=(li z).length:=List.length_map _
theorem Ft.lsg {n:Nat} {z:Str} (h:Tx n z):Ft 1 (n * 2) (.list (bP z)):=Ft.list (by rw [km]; exact h.2) (v7 h)
theorem Good.sgs {n:Nat} {z:Str} (h:Tx n z) (hn:n≤100):Good (.tuple (bP z)) :=
 ⟨(Ft.tup (L:=n) (by rw [km]; exact h.2) (v7 h)).mono (by decide) (by omega),fun us e=>by
  cases e
  refine ⟨by rw [km]; have:=h.2; omega,fun y hy=>?_⟩
  obtain ⟨c,hc,e⟩:=List.mem_map.mp (show PyData.str y∈(li z).map s1 from hy)
  cases e
  rw [← Tg.len_li]
  show 1≤1000
  decide⟩
theorem xc {cs:List Nat} (hl:cs.length≤1000):joinD "" [.list (cs.map s1)]=some (.str (ofL cs)):=lX hl
theorem pf {p:D} (hp:IsPen p):W (bX [p]) (fun r=>∃ ts p',r=(.list ts,[some p'])∧ts.length≤20∧(∀ t∈ts,Good t)∧IsPen p'):=by
 simp only [bX,eZ,ws]
 refine W.use (kf (n:=24) hp (by decide)) ?_
 rintro _ ⟨cs,p1,rfl,cl,nd,mem,hp1⟩
 have ej:=xc (cs:=cs) (by omega)
 obtain ⟨z,hz⟩:∃ z,ofL cs=z:=⟨_,rfl⟩
 rw [hz] at ej
 have T:Tx 24 z:=by
  rw [← hz]
  exact ⟨fun c hc=>by have:=(fq c (mem c hc)).2.1; omega,by rw [mI,cl]; exact Nat.le_refl _⟩
 have lz:(li z).length=24:=by rw [← hz,mI,cl]
 have L:(z.length≤sizeLine)=True:=eq_true (sz (by have:=T.len; omega))
 have Lc:∀ lo hi,((⟨(cw z.cps.toList lo hi).toArray⟩:Str).length≤sizeLine)=True:=fun lo hi=>eq_true (sz (by have:=(T.cut lo hi).len; omega))
 have at_:∀ {n:Nat},n < 24→∃ c,atI (li z) (n:Int)=some c∧c < 1000:=fun {n} h=>by
  have h':n < (li z).length:=by omega
  exact ⟨(li z)[n],by rw [aS]; exact List.getElem?_eq_getElem h',T.1 _ (List.getElem_mem h')⟩
 obtain ⟨c12,a12,b12⟩:=at_ (n:=12) (by decide)
 obtain ⟨c0,a0,b0⟩:=at_ (n:=0) (by decide)
 obtain ⟨c1,a1,b1⟩:=at_ (n:=1) (by decide)
 obtain ⟨c2,a2,b2⟩:=at_ (n:=2) (by decide)
 obtain ⟨c3,a3,b3⟩:=at_ (n:=3) (by decide)
 obtain ⟨c4,a4,b4⟩:=at_ (n:=4) (by decide)
 have a12':atI (li z) 12=some c12:=a12
 have a0':(li z)[0]?=some c0:=by have:atI (li z) ((0:Nat):Int)=some c0:=a0; rwa [aS] at this
 have a1':atI (li z) 1=some c1:=a1
 have a2':atI (li z) 2=some c2:=a2
 have a3':atI (li z) 3=some c3:=a3
 have a4':atI (li z) 4=some c4:=a4
 have a00:atI (li z) 0=some c0:=a0
 have ts_:∀ lo hi,j5 [.str ⟨(cw z.cps.toList lo hi).toArray⟩]=some (.tuple (bP ⟨(cw z.cps.toList lo hi).toArray⟩)):=fun lo hi=>if_pos (sz (by have:=(T.cut lo hi).len; exact Nat.le_trans this (by decide)))
 simp only [ws,ej,L,Lc,ts_,a12',a0',a00,a1',a2',a3',a4',true_and]
 have Ec:∀ lo hi,El (.str ⟨(cw z.cps.toList lo hi).toArray⟩):=fun lo hi=>El.tx (T.cut lo hi) (by decide)
 have E1:∀ {c},c < 1000→El (.str (mk1 c)):=fun h=>El.tx (Tx.one h) (by decide)
 refine ⟨sz (by show 5+2≤1000; decide),sz (by show 7+3≤1000; decide),⟨by have:=(T.cut none (some 2)).len; omega,by decide,by decide⟩,sz (by show 10+5≤1000; decide),_,p1,rfl,by show 15≤20; decide,fun t ht=>?_,hp1⟩
 simp only [List.mem_cons,List.not_mem_nil,or_false] at ht
 rcases ht with rfl | rfl | rfl | rfl | rfl | rfl | rfl | rfl | rfl | rfl | rfl | rfl | rfl | rfl | rfl
 ·exact Good.tup (by show 2≤15; decide) (aA (Ec _ _) (aA (Ec _ _) bh))
 ·exact Good.tup (by show 3≤15; decide) (aA (Ec _ _) (aA (Ec _ _) (aA (E1 b12) bh)))
 ·exact Good.tup (by show 1≤15; decide) (aA (Ec _ _) bh)
 ·exact Good.tup (by show 1≤15; decide) (aA (Ec _ _) bh)
 ·exact Good.tup (by show 2≤15; decide) (aA (Ec _ _) (aA (Ec _ _) bh))
 ·exact Good.tup (by show 4≤15; decide) (aA (Ec _ _) (aA (Ec _ _) (aA (Ec _ _) (aA (Ec _ _) bh))))
 ·exact Good.tup (by show 4≤15; decide) (aA (Ec _ _) (aA (Ec _ _) (aA (Ec _ _) (aA (Ec _ _) bh))))
 ·exact Good.tup (by show 4≤15; decide) (aA (E1 b0) (aA (E1 b1) (aA (E1 b2) (aA (E1 b3) bh))))
 ·exact Good.tup (by show 5≤15; decide) (aA (E1 b0) (aA (E1 b1) (aA (E1 b2) (aA (E1 b3) (aA (E1 b4) bh)))))
 ·exact Good.tup (by show 1≤15; decide) (aA (E1 b0) bh)
 ·exact Good.sgs (T.cut _ _) (by decide)
 ·exact Good.sgs (T.cut _ _) (by decide)
 ·exact Good.tup (by show 2≤15; decide) (aA (Ec _ _) (aA (El.tx (T.cut (some 6) (some 12)).rev (by decide)) bh))
 ·exact Good.tup (by show 2≤15; decide) (aA (Ec _ _) (aA (Ec _ _) bh))
 ·exact Good.tup (by show 1≤15; decide) (aA (El.tx (T.cut none (some 2)).mul3 (by decide)) bh)
end W01
namespace W01
open PySem L2 Tg Pen3
def cR4:MS:=(aR (e2 cx (ae 6) (aZ (ad (e2 gq (ae 1) (ae 1)) (ad (a5 (ad (ae 1) ah)) (ad (aZ (ad (ae 1) ah)) (ad (a5 (ad (eN bR (ad (ae 1) ah)) ah)) (ad (ae 3) (ad (eN bR (ad (ae 3) ah)) ah)))))))))
def cR3:MS:=(au (aC 6 (e2 cx (ae 6) (aZ (ad (ae 1) (ad (eN bR (ad (ae 1) ah)) (ad (eM joinD (eC (.str "")) (ad (ae 1) ah)) (ad (dU (ae 1) (eC (.bool true))) (ad (e2 gI (ae 1) (e1 da (eC (.int 1)))) (ad (eSl eF (ae 1) aN (az (eC (.int 1)))) (ad (eSl eF (ae 1) (az (eC (.int 1))) aN) ah)))))))))) cR4)
def cR2:MS:=(au (aC 6 (e2 cx (ae 6) (eLC true (cJ (aZ (ad (eC (.str "")) (ad (ae 4) (ad (eSl aV (ae 3) (az (e1 da (eC (.int 1)))) aN) (ad (eC .none) (ad (a5 ah) ah))))))) (gN 0) cY ef [none,some 1]))) cR3)
def cR1:MS:=(au (aC 6 (eLC true (cJ (ae 5)) (gN 0) cY eg [none,some 1,some 2])) cR2)
theorem ya:fZ=(au (aC 2 (aO F_law_draw (bx 0 (ad (eN bp (ad (ae 1) ah)) ah))))
 (au (aC 3 (e2 ixA (ae 1) (ae 2)))
 (au (aC 4 (e2 ixA (eLC true (cJ (aO aX (bx 0 (ad (eC (.int 13)) ah)))) (gN 0) dY eh [none,some 1]) (eC (.int 0))))
 (au (aC 5 (aZ (ad (eC (.str "")) (ad (e2 bi (ae 3) (eSl aV (ae 3) aN (az (eC (.int 1))))) (ad (e2 bi (ae 3) (ae 4)) (ad (ae 4) (ad (e2 bi (ae 4) (eSl aV (ae 3) (az (eC (.int 1))) aN)) (ad (e2 bi (eSl aV (ae 3) aN (az (e1 da (eC (.int 1))))) (eC (.str " "))) (ad (e2 bi (ae 3) (eC (.str "\n"))) (ad (eC (.str " ")) (ad (eC (.str "\n")) ah)))))))))))
 (au (aC 5 (e2 cx (ae 5) (aZ (ad (eC .none) (ad (eC (.int 7)) (ad (eC (.bool true)) (ad (aZ (ad (ae 3) ah)) (ad (a5 (ad (ae 3) ah)) (ad (eN bR (ad (ae 3) ah)) (ad dH (ad (e2 ixA (ae 1) (eC (.int 0))) (ad (eSl aV (e2 ixA (ae 1) (e1 da (eC (.int 1)))) aN (az (eC (.int 1)))) (ad (e2 fE (ae 3) (e1 da (eC (.int 1)))) ah))))))))))))) cR1))))):=rfl
theorem lJ:∀ {cs A:List Nat},cs.Nodup→(∀ c∈cs,c∈A)→cs.length≤A.length
 | [],_,_,_=>Nat.zero_le _
 | c :: cs,A,nd,h=>by
  have hc:=h c List.mem_cons_self
  obtain ⟨n1,n2⟩:=List.nodup_cons.mp nd
  have ih:=lJ (A:=A.erase c) n2 fun x hx=>(List.mem_erase_of_ne (fun z:x=c=>n1 (by rw [← z]; exact hx))).mpr (h x (List.mem_cons_of_mem _ hx))
  rw [List.length_erase_of_mem hc] at ih
  have:=List.length_pos_of_mem hc
  rw [List.length_cons]
  omega
section
variable {ks:List Str}
theorem cR (T:TOk ks) {k:Str} (hk:k∈ks):Tx 6 k:=⟨fun c hc=>by
 have:=(fq c (T.mem c (List.mem_flatten.mpr ⟨li k,List.mem_map.mpr ⟨k,hk,rfl⟩,hc⟩))).2.1
 omega,(T.fu k hk).2⟩
theorem dF (T:TOk ks):∀ u∈ks.map PyData.str,El u:=fun u hu=>by
 obtain ⟨k,hk,rfl⟩:=List.mem_map.mp hu
 exact El.tx (cR T hk) (by decide)
theorem iJ (T:TOk ks):∀ u∈ks.map PyData.str,Ft 0 6 u:=fun u hu=>by
 obtain ⟨k,hk,rfl⟩:=List.mem_map.mp hu
 exact (cR T hk).ft
theorem fg (T:TOk ks):(ks.map PyData.str).length≤4:=by rw [List.length_map]; exact T.n4
theorem iR {got us:List D} (h:∀ u∈got,Good u) (hu:∀ u∈us,Good u):∀ u∈got++us,Good u:=fun u hm=>(List.mem_append.mp hm).elim (h u) (hu u)
theorem nP {n:Nat} {z:Str} (h:Tx n z) (hn:n≤1000):bR [.str z]=some (.list (bP z)):=if_pos (sz (by rw [← Array.length_toList]; exact Nat.le_trans h.2 hn))
theorem BZ (T:TOk ks) {k:Str} (hk:k∈ks) {gs:List D} (gl:gs.length≤50) (hg:∀ t∈gs,Good t) {p x2 x4 x5:Option D} {Q:Fl→Prop} (hq:∀ ts x1 x2 x3 x4 x5 x6,ts.length≤60→(∀ t∈ts,Good t)→Q (.rt (.list ts) [p,x1,x2,x3,x4,x5,x6])) :
  W (cR4 [p,some (.tuple (ks.map .str)),x2,some (.str k),x4,x5,some (.list gs)]) Q:=by
 have l4:=fg T
 have n4:=T.n4
 simp only [ws,cR4,nP (cR T hk) (by decide)]
 refine ⟨sz (by omega),sz (by show gs.length+6≤1000; omega),hq _ _ _ _ _ _ _ (by rw [List.length_append]; show gs.length+6≤60; omega) (iR hg fun t ht=>?_)⟩
 have ft:=Ft.tup l4 (iJ T)
 have fl:=Ft.list l4 (iJ T)
 simp only [List.mem_cons,List.not_mem_nil,or_false] at ht
 rcases ht with rfl | rfl | rfl | rfl | rfl | rfl
 ·exact Good.tup (by rw [List.length_append]; omega) (i3 (dF T) (dF T))
 ·exact Good.tup (by show 1≤15; decide) (aA (El.of (ft.mono (by decide) (by decide)) (by simp)) bh)
 ·exact Good.of ((Ft.list (L:=1) (Nat.le_refl _) fun u hu=>by rw [List.mem_singleton.mp hu]; exact ft).mono (by decide) (by decide)) (by simp)
 ·exact Good.tup (by show 1≤15; decide) (aA (El.of (fl.mono (by decide) (by decide)) (by simp)) bh)
 ·exact Good.of ((cR T hk).ft.mono (by decide) (by decide)) (by simp)
 ·exact Good.of ((Ft.lsg (cR T hk)).mono (by decide) (by decide)) (by simp)
theorem kI:∀ ks:List Str,dQ (ks.map .str)=some (ks.map Sum.inr)
 | []=>rfl
 | k :: ks=>by
  show (dQ (ks.map .str)).map (Sum.inr k :: ·)=_
  rw [kI ks]
  rfl
theorem xT {x0 x2 x3 x4 x5 x6:Option D}:dU (ae 1) (eC (.bool true)) [x0,some (.tuple (ks.map .str)),x2,x3,x4,x5,x6]=some (.dict [(.tuple (ks.map .str),.bool true)],[x0,some (.tuple (ks.map .str)),x2,x3,x4,x5,x6]):=by
 show (dQ (ks.map .str)).map _=_
 rw [kI]
 rfl
theorem xU {t:D} {d b:Nat} {c:Bool} (h:Ft d b t):Ft (d+1) (b+2) (.dict [(t,.bool c)]):=by
 obtain ⟨a1,a2,a3,a4⟩:=h
 refine ⟨?_,?_,?_,?_⟩
 ·simp [PyData.showable,PyData.showableKv,a1]
 ·simp only [PyData.depth,PyData.depthKv]; omega
 ·simp [PyData.leavesShort,PyData.leavesShortKv,a3]
 ·simp only [PyData.bulk,PyData.bulkKv]; omega
theorem B0 (T:TOk ks) {k:Str} (hk:k∈ks) {gs:List D} (gl:gs.length≤40) (hg:∀ t∈gs,Good t) {p x2 x4 x5:Option D} {Q:Fl→Prop} (hq:∀ ts x1 x2 x3 x4 x5 x6,ts.length≤60→(∀ t∈ts,Good t)→Q (.rt (.list ts) [p,x1,x2,x3,x4,x5,x6])) :
  W (cR3 [p,some (.tuple (ks.map .str)),x2,some (.str k),x4,x5,some (.list gs)]) Q:=by
 have l4:=fg T
 have ej:joinD "" [.tuple (ks.map .str)]=some (.str (sgs ks)):=lW T
 have T12:Tx 12 (sgs ks):=⟨fun c hc=>by have:=(fq c (T.mem c hc)).2.1; omega,T.l12⟩
 simp only [ws,cR3,ej]
 refine W.of xT ?_
 simp only [ws]
 refine ⟨sz (by show gs.length+7≤1000; omega),BZ T hk (by rw [List.length_append]; show gs.length+7≤50; omega) (iR hg fun t ht=>?_) hq⟩
 have ft:=Ft.tup l4 (iJ T)
 have cutG:∀ lo hi,Good (.tuple (bD (ks.map PyData.str) lo hi)):=fun lo hi=>by
  refine Good.tup ?_ fun u hu=>dF T u ?_
  ·unfold bD
   rw [List.length_take,List.length_drop]
   omega
  ·unfold bD at hu
   exact List.mem_of_mem_drop (List.mem_of_mem_take hu)
 simp only [List.mem_cons,List.not_mem_nil,or_false] at ht
 rcases ht with rfl | rfl | rfl | rfl | rfl | rfl | rfl
 ·exact Good.tup (by omega) (dF T)
 ·exact Good.of ((Ft.list l4 (iJ T)).mono (by decide) (by decide)) (by simp)
 ·exact Good.of (T12.ft.mono (by decide) (by decide)) (by simp)
 ·exact Good.of ((xU ft).mono (by decide) (by decide)) (by simp)
 ·exact Good.tup (by rw [List.length_reverse]; omega) fun u hu=>dF T u (List.mem_reverse.mp hu)
 ·exact cutG _ _
 ·exact cutG _ _
theorem B1 (T:TOk ks) {k:Str} (hk:k∈ks) {x:Nat} (hx:x < 1000) {gs:List D} (gl:gs.length≤30) (hg:∀ t∈gs,Good t) {p x2 x5:Option D} {Q:Fl→Prop} (hq:∀ ts x1 x2 x3 x4 x5 x6,ts.length≤60→(∀ t∈ts,Good t)→Q (.rt (.list ts) [p,x1,x2,x3,x4,x5,x6])) :
  W (cR2 [p,some (.tuple (ks.map .str)),x2,some (.str k),some (s1 x),x5,some (.list gs)]) Q:=by
 have l4:=fg T
 have L:(k.length≤sizeLine)=True:=eq_true (sz (by have:=(cR T hk).len; omega))
 have n4:=T.n4
 have A:∀ u:D,(ks.length+[u].length≤sizeLine)=True:=fun u=>eq_true (sz (by show _+1≤1000; omega))
 simp only [ws,cR2,ef,L,A,true_and]
 have G:∀ u,El u→Good (.tuple (ks.map PyData.str++[u])):=fun u hu=>Good.tup (by rw [List.length_append]; show _+1≤15; omega) (i3 (dF T) (aA hu bh))
 refine ⟨sz (by show gs.length+5≤1000; omega),B0 T hk (by rw [List.length_append]; show gs.length+5≤40; omega) (iR hg fun t ht=>?_) hq⟩
 simp only [List.mem_cons,List.not_mem_nil,or_false] at ht
 rcases ht with rfl | rfl | rfl | rfl | rfl
 ·exact G _ (El.tx (n:=0) ⟨by decide,by decide⟩ (by decide))
 ·exact G _ (El.tx (Tx.one hx) (by decide))
 ·exact G _ (El.tx ((cR T hk).cut _ _) (by decide))
 ·exact G _ (El.of (Ft.none.mono (by decide) (by decide)) (by simp))
 ·exact G _ (El.of ((Ft.tup (L:=0) (d:=0) (b:=0) (Nat.le_refl _) fun _ h=>by cases h).mono (by decide) (by decide)) (by simp))
theorem B2 (T:TOk ks) {k:Str} (hk:k∈ks) {x:Nat} (hx:x < 1000) {a:Nat} (ha:a < ks.length) {us:List D} (ul:us.length≤30) (hu:∀ u∈us,El u) {p:Option D} {Q:Fl→Prop} (hq:∀ ts x1 x2 x3 x4 x5 x6,ts.length≤60→(∀ t∈ts,Good t)→Q (.rt (.list ts) [p,x1,x2,x3,x4,x5,x6])) :
  W (cR1 [p,some (.tuple (ks.map .str)),some (.int (a:Int)),some (.str k),some (s1 x),some (.list us),none]) Q:=by
 have l4:=fg T
 have n4:=T.n4
 have ct:bD (ks.map PyData.str) none (some (a:Int))=(ks.map PyData.str).take a:=i5 _ a
 have cd:bD (ks.map PyData.str) (some ((a:Int)+1)) none=(ks.map PyData.str).drop (a+1):=i6 _ (a+1)
 simp only [ws,cR1]
 refine lm (fun u=>.tuple ((ks.map PyData.str).take a++[u]++(ks.map PyData.str).drop (a+1))) (sz (by omega)) (fun u hm=>?_) fun o=>?_
 ·simp only [ws,eg,ct,cd]
  refine ⟨sz (by rw [List.length_take]; show _+1≤1000; omega),sz (by rw [List.length_append,List.length_take,List.length_drop]; show _+1+_≤1000; omega)⟩
 ·simp only [ws]
  refine B1 T hk hx (by rw [List.length_map]; exact ul) (fun t ht=>?_) hq
  obtain ⟨u,hm,rfl⟩:=List.mem_map.mp ht
  refine Good.tup ?_ ?_
  ·rw [List.length_append,List.length_append,List.length_take,List.length_drop]
   show _+1+_≤15
   omega
  ·exact i3 (i3 (fun v hv=>dF T v (List.mem_of_mem_take hv)) (aA (hu u hm) bh)) fun v hv=>dF T v (List.mem_of_mem_drop hv)
theorem xZ (T:TOk ks) {p:D} (hp:IsPen p):W (cr [p,tD ks]) (fun r=>∃ ts p',r=(.list ts,[some p',none])∧ts.length≤60∧(∀ t∈ts,Good t)∧IsPen p'):=by
 have n1:=T.n1
 have n4:=T.n4
 simp only [cr,ya,tD,ws]
 refine gt hp (by omega) (by omega) fun r p1 r0 r1 hp1=>?_
 obtain ⟨a,rfl⟩:∃ a:Nat,r=a:=⟨r.toNat,(Int.toNat_of_nonneg r0).symm⟩
 have ha:a < ks.length:=by omega
 have hk:ks[a]∈ks:=List.getElem_mem ha
 have ak:atI (ks.map PyData.str) (a:Int)=some (.str ks[a]):=by rw [aS,List.getElem?_map,List.getElem?_eq_getElem ha]; rfl
 generalize ks[a]=k at hk ak
 simp only [ws,ak]
 refine W.use (kf (n:=13) hp1 (by decide)) ?_
 rintro _ ⟨cs,p2,rfl,cl,nd,mem,hp2⟩
 have ej:joinD "" [.tuple (ks.map .str)]=some (.str (sgs ks)):=lW T
 simp only [ws]
 refine oV (fun t=>!((sg t).all fun c=>decide (c∈aM ks))) (fun t=>t) (by rw [List.length_map]; exact sz (by omega)) (fun t ht=>?_) (fun t ht _=>?_) fun o=>?_
 ·obtain ⟨c,hc,rfl⟩:=List.mem_map.mp ht
  simp only [ws,dY,ej]
  have e:cS (sgs ks) (mk1 c)=decide (c∈aM ks):=by
   rw [Bool.eq_iff_iff,oh,decide_eq_true_iff]
   exact l6
  rw [e]
  show (_,_)=((![c].all fun c=>decide (c∈aM ks)),_)
  simp
 ·simp only [ws,eh]
 ·rw [List.map_id']
  obtain ⟨x0,h1,h2⟩:∃ x∈cs,x ∉ aM ks:=by
   by_cases h:∀ x∈cs,x∈aM ks
   ·have:=lJ nd h
    have:=T.l12
    omega
   ·simpa using h
  have hm:s1 x0∈(cs.map s1).filter fun t=>!((sg t).all fun c=>decide (c∈aM ks)):=List.mem_filter.mpr ⟨List.mem_map_of_mem h1,by
   show (![x0].all fun c=>decide (c∈aM ks))=true
   simp [h2]⟩
  obtain ⟨t0,rest,hL⟩:∃ t0 rest,((cs.map s1).filter fun t=>!((sg t).all fun c=>decide (c∈aM ks)))=t0 :: rest:=by
   cases h:(cs.map s1).filter fun t=>!((sg t).all fun c=>decide (c∈aM ks)) with
   | nil=>rw [h] at hm; cases hm
   | cons a b=>exact ⟨a,b,rfl⟩
  have ht0:t0∈cs.map s1:=(List.mem_filter.mp (by rw [hL]; exact List.mem_cons_self)).1
  obtain ⟨x,hx,rfl⟩:=List.mem_map.mp ht0
  have hx':x < 1000:=by have:=(fq x (mem x hx)).2.1; omega
  rw [hL]
  have kt:=cR T hk
  have L:(k.length≤sizeLine)=True:=eq_true (sz (by have:=kt.len; omega))
  obtain ⟨k0,hk0,e0⟩:∃ k0∈ks,(ks.map PyData.str)[0]?=some (.str k0):=⟨ks[0],List.getElem_mem (show 0 < ks.length by omega),by rw [List.getElem?_map,List.getElem?_eq_getElem (show 0 < ks.length by omega)]; rfl⟩
  obtain ⟨kl,hkl,el⟩:∃ kl∈ks,atI (ks.map PyData.str) (-1)=some (.str kl):=by
   have hi:ks.length - 1 < ks.length:=by omega
   refine ⟨ks[ks.length - 1],List.getElem_mem hi,?_⟩
   unfold atI
   have e:ixN (ks.map PyData.str).length (-1)=some (ks.length - 1):=by
    unfold ixN
    rw [List.length_map,if_neg (by decide),if_pos (by omega),show ((-1:Int)+(ks.length:Int)).toNat=ks.length - 1 by omega]
   rw [e]
   show (ks.map PyData.str)[ks.length - 1]?=_
   rw [List.getElem?_map,List.getElem?_eq_getElem hi]
   rfl
  have Ll:(kl.length≤sizeLine)=True:=eq_true (sz (by have:=(cR T hkl).len; omega))
  simp only [ws,L,Ll,true_and,nP kt (by decide),dH,e0,el]
  have k6:=kt.len
  have q1:=(kt.cut none (some 1)).len
  have q2:=(kt.cut (some 1) none).len
  have q3:=(kt.cut none (some (-1))).len
  have m1:(mk1 x).length=1:=rfl
  have b1:(Str.ofString " ").length=1:=by decide +kernel
  have b2:(Str.ofString "
").length=1:=by decide +kernel
  have tb:Tx 1 (Str.ofString " "):=⟨by decide +kernel,by decide +kernel⟩
  have tn:Tx 1 (Str.ofString "
"):=⟨by decide +kernel,by decide +kernel⟩
  have te:Tx 0 (Str.ofString ""):=⟨by decide +kernel,by decide +kernel⟩
  have tx:=Tx.one hx'
  have fk:Ft 0 6 (.str k):=kt.ft
  refine ⟨sz (by omega),sz (by omega),sz (by omega),sz (by omega),sz (by omega),sz (by show 9+10≤1000; decide),?_⟩
  refine B2 T hk hx' ha (by show 19≤30; decide) (fun u hu=>?_) fun ts y1 y2 y3 y4 y5 y6 tl tg=>?_
  ·simp only [List.mem_cons,List.not_mem_nil,or_false] at hu
   rcases hu with rfl | rfl | rfl | rfl | rfl | rfl | rfl | rfl | rfl | rfl | rfl | rfl | rfl | rfl | rfl | rfl | rfl | rfl | rfl
   ·exact El.tx te (by decide)
   ·exact El.tx (kt.app (kt.cut _ _)) (by decide)
   ·exact El.tx (kt.app tx) (by decide)
   ·exact El.tx tx (by decide)
   ·exact El.tx (tx.app (kt.cut _ _)) (by decide)
   ·exact El.tx ((kt.cut _ _).app tb) (by decide)
   ·exact El.tx (kt.app tn) (by decide)
   ·exact El.tx tb (by decide)
   ·exact El.tx tn (by decide)
   ·exact El.of (Ft.none.mono (by decide) (by decide)) (by simp)
   ·exact El.of ((Ft.int (by decide)).mono (by decide) (by decide)) (by simp)
   ·exact El.of (Ft.bool.mono (by decide) (by decide)) (by simp)
   ·exact El.of ((Ft.list (L:=1) (Nat.le_refl _) fun u hu=>by rw [List.mem_singleton.mp hu]; exact fk).mono (by decide) (by decide)) (by simp)
   ·exact El.of ((Ft.tup (L:=1) (Nat.le_refl _) fun u hu=>by rw [List.mem_singleton.mp hu]; exact fk).mono (by decide) (by decide)) (by simp)
   ·exact El.of ((Ft.lsg kt).mono (by decide) (by decide)) (by simp)
   ·refine El.of ⟨?_,?_,?_,?_⟩ (by simp) <;> simp [PyData.showable,PyData.showableKv,PyData.depth,PyData.depthKv,PyData.leavesShort,PyData.leavesShortKv,PyData.bulk,PyData.bulkKv]
   ·exact El.tx (cR T hk0) (by decide)
   ·exact El.tx ((cR T hkl).cut _ _) (by decide)
   ·exact El.tx kt.rev (by decide)
  ·simp only [ws]
   exact ⟨ts,p2,rfl,tl,tg,hp2⟩
end
end W01
namespace W01
open PySem L2 Tg Pen3
theorem w4 {ts:List D} (h:∀ t∈ts,Good t) {x0 x1 x2 x3 x4 x5 x6:Option D} {Q:Fl→Prop} (hq:∀ x7,Q (.nx [x0,x1,x2,x3,x4,x5,x6,x7])) {x7:Option D} :
  W (bY (gN 7) lr ts [x0,x1,x2,x3,x4,x5,x6,x7]) Q:=by
 refine lp (fun en=>∃ x7,en=[x0,x1,x2,x3,x4,x5,x6,x7]) ⟨_,rfl⟩ (fun t ht en hJ=>?_) fun en hJ=>?_
 ·obtain ⟨x7,rfl⟩:=hJ
  simp only [ws,lr]
  refine W.use (wB (h t ht)) ?_
  rintro _ rfl
  simp only [ws]
  exact ⟨_,rfl⟩
 ·obtain ⟨x7,rfl⟩:=hJ
  exact hq x7
def Dp (i:Nat) (t:D):Prop:=Ft (1+i) (28+i) t∧Sm t∧∃ us,t=.tuple us
theorem Dp.next {i:Nat} {t:D} (h:Dp i t):Dp (i+1) (.tuple [t]):=by
 obtain ⟨h1,h2,us,rfl⟩:=h
 refine ⟨(Ft.tup (L:=1) (Nat.le_refl _) fun u hu=>by rw [List.mem_singleton.mp hu]; exact h1).mono (by omega) (by omega),fun ts e=>?_,_,rfl⟩
 cases e
 refine ⟨by show 1≤1000; decide,fun z hz=>?_⟩
 cases List.mem_singleton.mp hz
theorem A4 {t:D} (h:Dp 25 t):∀ u∈[t,.tuple [],.list [],.dict [],.none,.bool true,.bool false,.int 0,.int 1,.str (Str.ofString ""),.str (Str.ofString "ab"),.tuple [.tuple []]],Good u:=by
 have f0:Ft 1 0 (.tuple []):=Ft.tup (L:=0) (d:=0) (b:=0) (Nat.le_refl _) fun _ h=>by cases h
 intro u hu
 simp only [List.mem_cons,List.not_mem_nil,or_false] at hu
 rcases hu with rfl | rfl | rfl | rfl | rfl | rfl | rfl | rfl | rfl | rfl | rfl | rfl
 ·exact ⟨h.1.mono (by decide) (by decide),h.2.1⟩
 ·exact Good.tup (by decide) bh
 ·exact Good.of ((Ft.list (L:=0) (d:=0) (b:=0) (Nat.le_refl _) fun _ h=>by cases h).mono (by decide) (by decide)) (by simp)
 ·refine Good.of ⟨?_,?_,?_,?_⟩ (by simp) <;> simp [PyData.showable,PyData.showableKv,PyData.depth,PyData.depthKv,PyData.leavesShort,PyData.leavesShortKv,PyData.bulk,PyData.bulkKv]
 ·exact Good.of (Ft.none.mono (by decide) (by decide)) (by simp)
 ·exact Good.of (Ft.bool.mono (by decide) (by decide)) (by simp)
 ·exact Good.of (Ft.bool.mono (by decide) (by decide)) (by simp)
 ·exact Good.of ((Ft.int (by decide)).mono (by decide) (by decide)) (by simp)
 ·exact Good.of ((Ft.int (by decide)).mono (by decide) (by decide)) (by simp)
 ·exact Good.of ((Tx.ft (n:=0) ⟨by decide +kernel,by decide +kernel⟩).mono (by decide) (by decide)) (by simp)
 ·exact Good.of ((Tx.ft (n:=2) ⟨by decide +kernel,by decide +kernel⟩).mono (by decide) (by decide)) (by simp)
 ·exact Good.tup (by show 1≤15; decide) (aA (El.of (f0.mono (by decide) (by decide)) (by simp)) bh)
theorem pH:A3 nq:=by
 intro ns hn
 suffices W (nq [.list (ns.map .int)]) (fun r=>∃ o,r=(.bool true,o)) by
  obtain ⟨_,e,o,rfl⟩:=this.ex
  exact ⟨o,e⟩
 simp only [ws,nq,qA]
 refine ⟨by decide,?_⟩
 refine lp (fun en=>∃ x1 x2 x3 x4 x5 x6 x7,en=[some (.list (ns.map .int)),x1,x2,x3,x4,x5,x6,x7]) ⟨_,_,_,_,_,_,_,rfl⟩ (fun t ht en hJ=>?_) fun en hJ=>?_
 ·obtain ⟨x1,x2,x3,x4,x5,x6,x7,rfl⟩:=hJ
  obtain ⟨i,hi⟩:=List.getElem?_of_mem ht
  obtain ⟨hi,rfl⟩:=lM hi
  simp only [ws,oW]
  refine CW (by omega) fun p hp=>?_
  simp only [ws]
  refine W.use (nw hp) ?_
  rintro _ ⟨ks,p1,rfl,T,hp1⟩
  simp only [ws]
  refine ⟨by decide,?_⟩
  have D0:Dp 0 (tD ks):=by
   refine ⟨(Ft.tup (fg T) (iJ T)).mono (by decide) (by decide),fun ts e=>?_,_,rfl⟩
   cases e
   refine ⟨by have:=fg T; omega,fun z hz=>?_⟩
   have:=((dF T) _ hz).2 z rfl
   omega
  refine kb (fun j en=>∃ t x5,en=[some (.list (ns.map .int)),some (.int (0+(i:Int))),some p1,some (tD ks),some t,x5,x6,x7]∧Dp j t) ⟨_,_,rfl,D0⟩ (fun j u en hu hJ=>?_) fun en hJ=>?_
  ·obtain ⟨t,x5,rfl,hd⟩:=hJ
   simp only [ws,oX]
   exact ⟨_,_,rfl,hd.next⟩
  ·obtain ⟨t,x5,rfl,hd⟩:=hJ
   rw [gH] at hd
   have hd:Dp 25 t:=hd
   simp only [ws]
   refine W.use (xZ T hp1) ?_
   rintro _ ⟨ts,p2,rfl,tl,tg,hp2⟩
   simp only [ws]
   refine W.use (pf hp2) ?_
   rintro _ ⟨us,p3,rfl,ul,ug,hp3⟩
   simp only [ws,dH]
   refine ⟨sz (by omega),sz (by rw [List.length_append]; show ts.length+us.length+12≤1000; omega),?_⟩
   refine w4 (iR (iR tg ug) (A4 hd)) fun x7=>?_
   simp only [ws]
   exact ⟨_,_,_,_,_,_,_,rfl⟩
 ·obtain ⟨x1,x2,x3,x4,x5,x6,x7,rfl⟩:=hJ
  simp only [ws]
  exact ⟨_,rfl⟩
end W01
set_option maxHeartbeats 4000000
namespace W01
open PySem L2
theorem eL {α β:Type} {us:List α} {x0:β} (h:us.length=[x0].length):∃ a0,us=[a0]:=by
 cases us with
 | nil=>cases h
 | cons a0 r=>exact ⟨a0,by rw [List.length_eq_zero_iff.mp (show r.length=0 from Nat.succ.inj h)]⟩
theorem mK {α β:Type} {us:List α} {x0 x1:β} (h:us.length=[x0,x1].length):∃ a0 a1,us=[a0,a1]:=by
 cases us with
 | nil=>cases h
 | cons a0 r=>obtain ⟨a1,rfl⟩:=eL (us:=r) (x0:=x1) (Nat.succ.inj h); exact ⟨a0,a1,rfl⟩
theorem all_mk {l:PySem.W.OpenLaw} {w:World} {K:PySem.W.Frag} {h:Heap} {mg:Str→Option Value} {fa f0 f1 f2 f3 f4 f5 f6 f7 f8 f9 f10 f11 f12 f13 f14:Addr} {tk0:Tok} {tk1:Tok} {tk2:Tok} {tk3:Tok} {tk4:Tok} {tk5:Tok} (X:K.In h) (G:h.Ns mainGlobals mg) (hfa:mg "law"=some (.ref fa))
  (d0:Df K "is_sign" io f0)
  (d1:Df K "is_kind" fS f1)
  (d2:Df K "are_unlike" eS f2)
  (d3:Df K "signs_of" gu f3)
  (d4:Df K "is_tongue" dI f4)
  (d5:Df K "_law_pen" gw f5)
  (d6:Df K "_law_draw" fU f6)
  (d7:Df K "_law_every" eV f7)
  (d8:Df K "_law_unlike" cX f8)
  (d9:Df K "_law_tongue" dZ f9)
  (d10:Df K "_law_is_tongue" cZ f10)
  (d11:Df K "_law_bent" cp f11)
  (d12:Df K "_law_sized" eT f12)
  (d13:Df K "_law_told" fT f13)
  (d14:Df K "law" im f14)
  (y0:PySem.W.nsIn K mainGlobals "LOWEST_CODE"=some (some (.int 33 tk0)))
  (y1:PySem.W.nsIn K mainGlobals "HIGHEST_CODE"=some (some (.int 126 tk1)))
  (y2:PySem.W.nsIn K mainGlobals "PERCENT_CODE"=some (some (.int 37 tk2)))
  (y3:PySem.W.nsIn K mainGlobals "MOST_SIGNS_OF_A_KIND"=some (some (.int 6 tk3)))
  (y4:PySem.W.nsIn K mainGlobals "MOST_SIGNS"=some (some (.int 12 tk4)))
  (y5:PySem.W.nsIn K mainGlobals "MOST_KINDS"=some (some (.int 4 tk5)))
  (z0:PySem.W.nsIn K mainGlobals "abs"=some none)
  (z1:PySem.W.nsIn K mainGlobals "all"=some none)
  (z2:PySem.W.nsIn K mainGlobals "bool"=some none)
  (z3:PySem.W.nsIn K mainGlobals "isinstance"=some none)
  (z4:PySem.W.nsIn K mainGlobals "len"=some none)
  (z5:PySem.W.nsIn K mainGlobals "list"=some none)
  (z6:PySem.W.nsIn K mainGlobals "min"=some none)
  (z7:PySem.W.nsIn K mainGlobals "ord"=some none)
  (z8:PySem.W.nsIn K mainGlobals "range"=some none)
  (z9:PySem.W.nsIn K mainGlobals "repr"=some none)
  (z10:PySem.W.nsIn K mainGlobals "set"=some none)
  (z11:PySem.W.nsIn K mainGlobals "str"=some none)
  (z12:PySem.W.nsIn K mainGlobals "tuple"=some none) :
  ∃ fd:FuncData,(∀ (s:Shared) (v:Value),BindsTo s fd ⟨[v],[]⟩ [("_law_script",v)])∧∀ base:Heap,K.In base→base.Ns mainGlobals mg→FnOk l.prog w K mg base CX0 5 fa fd ["_law_script"] (iA K):=by
 have e:=hfa.symm.trans (PySem.W.mg_of X G d14.a)
 cases e
 have v0:=PySem.W.mg_of X G y0
 have v1:=PySem.W.mg_of X G y1
 have v2:=PySem.W.mg_of X G y2
 have v3:=PySem.W.mg_of X G y3
 have v4:=PySem.W.mg_of X G y4
 have v5:=PySem.W.mg_of X G y5
 have T:Bl mg:=⟨PySem.W.mg_none_of X G z0,PySem.W.mg_none_of X G z1,PySem.W.mg_none_of X G z2,PySem.W.mg_none_of X G z3,PySem.W.mg_none_of X G z4,PySem.W.mg_none_of X G z5,PySem.W.mg_none_of X G z6,PySem.W.mg_none_of X G z7,PySem.W.mg_none_of X G z8,PySem.W.mg_none_of X G z9,PySem.W.mg_none_of X G z10,PySem.W.mg_none_of X G z11,PySem.W.mg_none_of X G z12⟩
 obtain ⟨oc,od,kV,dc,pm,an,cd,ct,sl,ll,lc⟩:=d14.l
 have FL:=on (st:=im) ll lc d14.k
 refine ⟨PySem.W.fnOf "law" "law" (cP im) (bV im) (ay im) .none kV dc pm an cd ct,fun s v=>.of_eq rfl,fun base _ _=>?_⟩
 have g0:Kn l.prog w K mg base 1 "is_sign" ["sign"] (spF K [0] 3 cL):=d0.kn X G (fun _ _ _ _ _ _ us hl=>by obtain ⟨a0,rfl⟩:=eL hl; rfl) fun _ F=>nK (k:=0) T v0 v1 v2  F
 have g1:Kn l.prog w K mg base 2 "is_kind" ["thing"] (spF K [0] 3 cM):=d1.kn X G (fun _ _ _ _ _ _ us hl=>by obtain ⟨a0,rfl⟩:=eL hl; rfl) fun _ F=>nL (k:=1) T v3 (g0.mono (by decide)) F
 have g2:Kn l.prog w K mg base 1 "are_unlike" ["signs"] (spF K [0] 3 bW):=d2.kn X G (fun _ _ _ _ _ _ us hl=>by obtain ⟨a0,rfl⟩:=eL hl; rfl) fun _ F=>ky (k:=0) T   F
 have g3:Kn l.prog w K mg base 1 "signs_of" ["tongue"] (spF K [0] 3 du):=d3.kn X G (fun _ _ _ _ _ _ us hl=>by obtain ⟨a0,rfl⟩:=eL hl; rfl) fun _ F=>mF (k:=0) T   F
 have g4:Kn l.prog w K mg base 3 "is_tongue" ["thing"] (spF K [0] 3 bU):=d4.kn X G (fun _ _ _ _ _ _ us hl=>by obtain ⟨a0,rfl⟩:=eL hl; rfl) fun _ F=>lw (k:=2) T v4 v5 (g3.mono (by decide)) (g2.mono (by decide)) (g1.mono (by decide)) F
 have g5:Kn l.prog w K mg base 1 "_law_pen" ["_law_script", "_law_k"] (spF K [0,0] 3 F_law_pen):=d5.kn X G (fun _ _ _ _ _ _ us hl=>by obtain ⟨a0,a1,rfl⟩:=mK hl; rfl) fun _ F=>mG (k:=0) T   F
 have g6:Kn l.prog w K mg base 1 "_law_draw" ["_law_pen_here", "_law_many"] (spF K [1,0] 0 F_law_draw):=d6.kn X G (fun _ _ _ _ _ _ us hl=>by obtain ⟨a0,a1,rfl⟩:=mK hl; rfl) fun _ F=>ly (k:=0) T   F
 have g7:Kn l.prog w K mg base 1 "_law_every" [] (spF K [] 3 bA):=d7.kn X G (fun _ _ _ _ _ _ us hl=>match us,hl with | [],_=>rfl) fun _ F=>kA (k:=0) T   F
 have g8:Kn l.prog w K mg base 2 "_law_unlike" ["_law_pen_here", "_law_many"] (spF K [1,0] 1 aX):=d8.kn X G (fun _ _ _ _ _ _ us hl=>by obtain ⟨a0,a1,rfl⟩:=mK hl; rfl) fun _ F=>jV (k:=1) T  (g7.mono (by decide)) (g6.mono (by decide)) F
 have g9:Kn l.prog w K mg base 3 "_law_tongue" ["_law_pen_here"] (spF K [1] 0 bN):=d9.kn X G (fun _ _ _ _ _ _ us hl=>by obtain ⟨a0,rfl⟩:=eL hl; rfl) fun _ F=>jW (k:=2) T  (g6.mono (by decide)) (g8.mono (by decide)) F
 have g10:Kn l.prog w K mg base 2 "_law_is_tongue" ["_law_thing"] (spF K [0] 3 bj):=d10.kn X G (fun _ _ _ _ _ _ us hl=>by obtain ⟨a0,rfl⟩:=eL hl; rfl) fun _ F=>h9 (k:=1) T  (g7.mono (by decide)) F
 have g11:Kn l.prog w K mg base 3 "_law_bent" ["_law_pen_here", "_law_tongue_here"] (spF K [1,0] 1 cr):=d11.kn X G (fun _ _ _ _ _ _ us hl=>by obtain ⟨a0,a1,rfl⟩:=mK hl; rfl) fun _ F=>lA (k:=2) T  (g6.mono (by decide)) (g8.mono (by decide)) F
 have g12:Kn l.prog w K mg base 3 "_law_sized" ["_law_pen_here"] (spF K [1] 1 bX):=d12.kn X G (fun _ _ _ _ _ _ us hl=>by obtain ⟨a0,rfl⟩:=eL hl; rfl) fun _ F=>kz (k:=2) T  (g8.mono (by decide)) F
 have g13:Kn l.prog w K mg base 4 "_law_told" ["_law_thing"] (spF K [0] 3 cq):=d13.kn X G (fun _ _ _ _ _ _ us hl=>by obtain ⟨a0,rfl⟩:=eL hl; rfl) fun _ F=>lx (k:=3) T  (g10.mono (by decide)) (g4.mono (by decide)) F
 exact (Cn (k:=4) T  (g5.mono (by decide)) (g9.mono (by decide)) (g11.mono (by decide)) (g12.mono (by decide)) (g13.mono (by decide)) FL).imp fun vs H Q E h=>A1 pH h
theorem walk {l:PySem.W.OpenLaw} {q:Program} {loose:List Str} {XP:(Str→Option Value)→Heap→Prop} {YP:World→Heap→Prop} {d:DefRec} {K:Params→PySem.W.Frag} (hn:l.most=some 63) (hdf:d.params.defaults=[]) (hq:PyProof.Rows.importsNone q=true)
  (hY:∀ (w:World) (h:Heap),YP w h→(K w.params).In h)
  (F:∀ (w:World) (mg:Str→Option Value) (fa:Addr) (h:Heap),(K w.params).In h→h.Ns mainGlobals mg→mg d.name=some (.ref fa) →
   ∃ fd:FuncData,(∀ (s:Shared) (u:Value),BindsTo s fd ⟨[u],[]⟩ [("_law_script",u)])∧∀ base:Heap,(K w.params).In base→base.Ns mainGlobals mg→FnOk l.prog w (K w.params) mg base CX0 5 fa fd ["_law_script"] (iA (K w.params))) :
  PySem.W.WalkO q loose XP YP l.row.toRowW d [] (fun f vs=>PySem.call f vs) :=
 L2.walk_of (n:=63) (k:=5) (x:="_law_script") (CX:=fun _=>CX0) (sp:=fun w=>iA (K w.params)) hn (by decide) hdf ⟨rfl,by decide,by decide,rfl⟩ hq hY F (fun _ _ a ns hl hO hS=>⟨a,ns,rfl,hS,hO,hl,fun _=>rfl⟩) fun _ _ _ _ _ z=>z
end W01
open PySem PySem.W PyProof.Rows
set_option maxRecDepth 100000 in
set_option maxHeartbeats 0 in
theorem PySem.Challenge.cw_wordrules_k01_tongues_of_anything_holds : PySem.Challenge.rw_wordrules_k01_tongues_of_anything.Holds := by
 w_on; o_law; k_head; (case hw=>w_witness2)
 k_fill
 refine W01.walk (l:=PySem.Challenge.rw_wordrules_k01_tongues_of_anything) rfl rfl rfl (fun w h Y=>PySem.W.kIn_of Y) ?F
 case F =>
  intro w mg fa h KX G hmg
  refine' W01.all_mk KX G hmg (.mk' ?_ ?_ ?_ ?_) (.mk' ?_ ?_ ?_ ?_) (.mk' ?_ ?_ ?_ ?_) (.mk' ?_ ?_ ?_ ?_) (.mk' ?_ ?_ ?_ ?_) (.mk' ?_ ?_ ?_ ?_) (.mk' ?_ ?_ ?_ ?_) (.mk' ?_ ?_ ?_ ?_) (.mk' ?_ ?_ ?_ ?_) (.mk' ?_ ?_ ?_ ?_) (.mk' ?_ ?_ ?_ ?_) (.mk' ?_ ?_ ?_ ?_) (.mk' ?_ ?_ ?_ ?_) (.mk' ?_ ?_ ?_ ?_) (.mk' ?_ ?_ ?_ ?_) ?_ ?_ ?_ ?_ ?_ ?_ ?_ ?_ ?_ ?_ ?_ ?_ ?_ ?_ ?_ ?_ ?_ ?_ ?_
  all_goals (try k_is)
